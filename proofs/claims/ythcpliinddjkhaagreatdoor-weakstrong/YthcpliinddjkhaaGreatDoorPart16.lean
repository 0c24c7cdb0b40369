/- Texts of this claim, joined: WkPt, WkSplit, WkNumb, WkPthy, WkCls. -/
import Derived.Test.YthcpliinddjkhaaGreatDoorPart15
import Derived.Test.YthcpliinddjkhaaGreatDoorPart1
import Derived.Test.YthcpliinddjkhaaGreatDoorPart2
import Derived.Test.YthcpliinddjkhaaGreatDoorPart4
import Derived.Maps.AppendAt
import Derived.Sort.CutIn
import Derived.Test.YthcpliinddjkhaaGreatDoorPart0
import Derived.Test.YthcpliinddjkhaaGreatDoorPart5
namespace Go.Proofs.YthcpliinddjkhaaGreatDoor
section
open Go.RowKit Go.Maps
abbrev Bl := Nat × Nat × (Nat -> Bool)
def blV (d : Nat) (r : Bl) : Value := rowV r.1 0 d r.2.1
def blC (d : Nat) (l : List Bl) : List Value := l.map (blV d)
def blS (l : List Bl) : List (Nat -> Bool) := l.map fun r => r.2.2
theorem blC_len (d : Nat) (l : List Bl) : (blC d l).length = l.length := by simp [blC]
theorem blS_len (l : List Bl) : (blS l).length = l.length := by simp [blS]
theorem blC_at {d : Nat} {l : List Bl} {j : Nat} {r : Bl} (h : l[j]? = some r) : (blC d l)[j]? = some (blV d r) := by simp [blC, h]
theorem blS_at {l : List Bl} {j : Nat} {r : Bl} (h : l[j]? = some r) : (blS l)[j]? = some r.2.2 := by simp [blS, h]
namespace Wk
def inP (b can : Nat -> Bool) : Nat -> Bool := fun q => b q && can q
def outP (b can : Nat -> Bool) : Nat -> Bool := fun q => b q && !can q
def sp1 (N : Nat) (can : Nat -> Bool) (s : List (Nat -> Bool) × List (Nat -> Bool)) (i : Nat) : List (Nat -> Bool) × List (Nat -> Bool) :=
 match s.1[i]? with
 | none => s
 | some b => if meetS b can N && !withS b can N then (s.1.set i (inP b can) ++ [outP b can], s.2 ++ [inP b can, outP b can]) else s
def spI (N : Nat) (can : Nat -> Bool) (s : List (Nat -> Bool) × List (Nat -> Bool)) : Nat -> List (Nat -> Bool) × List (Nat -> Bool)
 | 0 => s
 | i + 1 => sp1 N can (spI N can s i) i
theorem sp1_yes {N : Nat} {can b : Nat -> Bool} {s : List (Nat -> Bool) × List (Nat -> Bool)} {i : Nat} (h : s.1[i]? = some b) (h1 : meetS b can N = true) (h2 : withS b can N = false) : sp1 N can s i = (s.1.set i (inP b can) ++ [outP b can], s.2 ++ [inP b can, outP b can]) := by
 unfold sp1; rw [h]; simp [h1, h2]
theorem sp1_no {N : Nat} {can b : Nat -> Bool} {s : List (Nat -> Bool) × List (Nat -> Bool)} {i : Nat} (h : s.1[i]? = some b) (h1 : meetS b can N = false \/ withS b can N = true) : sp1 N can s i = s := by
 unfold sp1; rw [h]
 rcases h1 with h1 | h1 <;> simp [h1]
theorem sp1_len (N : Nat) (can : Nat -> Bool) (s : List (Nat -> Bool) × List (Nat -> Bool)) (i : Nat) : (sp1 N can s i).1.length <= s.1.length + 1 /\ (sp1 N can s i).2.length <= s.2.length + 2 := by
 unfold sp1
 split
 ·omega
 ·split
  ·simp
  ·omega
theorem spI_len (N : Nat) (can : Nat -> Bool) (s : List (Nat -> Bool) × List (Nat -> Bool)) : ∀ i, (spI N can s i).1.length <= s.1.length + i /\ (spI N can s i).2.length <= s.2.length + 2 * i
 | 0 => ⟨Nat.le_refl _, Nat.le_refl _⟩
 | i + 1 => by
   have h1 := sp1_len N can (spI N can s i) i
   have h2 := spI_len N can s i
   show (sp1 N can (spI N can s i) i).1.length <= _ /\ (sp1 N can (spI N can s i) i).2.length <= _
   omega
end Wk
structure Ptg (w : World) (B gp d : Nat) (u v : Value) (bl st : List Bl) : Prop where
 ub : B <= gp
 obj : w.heap[gp]? = some (.cells #[u, v] 177 (0, 0))
 ob : w.ownsRow B 82 1 u bl.length (blC d bl)
 os : w.ownsRow B 82 1 v st.length (blC d st)
 ap : ∀ k, u.ownBlock = some k -> v.ownBlock ≠ some k
 rb : ∀ r ∈ bl, RowAt w r.1 0 d r.2.2
 rs : ∀ r ∈ st, RowAt w r.1 0 d r.2.2
theorem Ptg.below {w w' : World} {B gp d : Nat} {u v : Value} {bl st : List Bl} (h : Ptg w B gp d u v bl st) (hb : Below w.heap.size w w') : Ptg w' B gp d u v bl st :=
 ⟨h.ub, (hb.block _ (t_lt h.obj)).trans h.obj, trow_at h.ob fun b e => hb.block b (h.ob.lt b e).2, trow_at h.os fun b e => hb.block b (h.os.lt b e).2, h.ap, fun r hr => (h.rb r hr).below hb, fun r hr => (h.rs r hr).below hb⟩
structure PtF (B : Nat) (w w' : World) : Prop where
 bl : Below B w w'
 wd : ∀ (b : Nat) (cs : Array Value), w.heap[b]? = some (.cells cs 140 (0, 0)) -> w'.heap[b]? = some (.cells cs 140 (0, 0))
theorem PtF.refl (B : Nat) (w : World) : PtF B w w := ⟨Below.refl _ _, fun _ _ h => h⟩
theorem PtF.trans {B : Nat} {a b c : World} (h : PtF B a b) (k : PtF B b c) : PtF B a c := ⟨h.bl.trans k.bl, fun g cs hg => k.wd g cs (h.wd g cs hg)⟩
theorem PtF.of_below {B : Nat} {a b : World} (hB : B <= a.heap.size) (h : Below a.heap.size a b) : PtF B a b := ⟨h.mono hB, fun g _ hg => (h.block g (t_lt hg)).trans hg⟩
theorem PtF.row {B : Nat} {a b : World} (h : PtF B a b) {g o d : Nat} {S : Nat -> Bool} (hR : RowAt a g o d S) : RowAt b g o d S := by
 obtain ⟨cs, h1, h2⟩ := hR
 exact ⟨cs, h.wd g cs h1, h2⟩
theorem PtF.of_kept {B : Nat} {a b : World} {F : Nat -> Prop} (hk : Kept F a b) (hB : B <= a.heap.size) (hF : ∀ k, F k -> B <= k /\ ∀ cs : Array Value, a.heap[k]? ≠ some (.cells cs 140 (0, 0))) : PtF B a b := ⟨hk.below hB fun k h => (hF k h).1, fun g cs hg => (hk.block g (t_lt hg) fun h => (hF g h).2 cs hg).trans hg⟩
theorem row_not {w : World} {B : Nat} {e t : TypeId} {s : Nat} {v : Value} {n : Nat} {xs : List Value} (h : w.ownsRow B e s v n xs) (hne : e ≠ t) {k : Nat} (hk : v.ownBlock = some k) (cs : Array Value) : w.heap[k]? ≠ some (.cells cs t (0, 0)) := fun hc => own_bk h hc hne hk
theorem obj_not {w : World} {b : Nat} {cs0 : Array Value} {e t : TypeId} (h : w.heap[b]? = some (.cells cs0 e (0, 0))) (hne : e ≠ t) (cs : Array Value) : w.heap[b]? ≠ some (.cells cs t (0, 0)) := fun hc => by
 rw [h] at hc
 injection hc with e1
 injection e1 with _ e2
 exact hne e2
theorem Ptg.gu {w : World} {B gp d : Nat} {u v : Value} {bl st : List Bl} (h : Ptg w B gp d u v bl st) {k : Nat} (hk : u.ownBlock = some k) : k ≠ gp := fun e => by subst e; exact own_bk h.ob h.obj (by decide) hk
theorem Ptg.gv {w : World} {B gp d : Nat} {u v : Value} {bl st : List Bl} (h : Ptg w B gp d u v bl st) {k : Nat} (hk : v.ownBlock = some k) : k ≠ gp := fun e => by subst e; exact own_bk h.os h.obj (by decide) hk
theorem Ptg.put {w : World} {B gp d g n c i : Nat} {v : Value} {bl st : List Bl} {r : Bl} (h : Ptg w B gp d (.slice (some ⟨g, 0, none⟩) n c) v bl st) (hn : n = bl.length) (hB : B <= w.heap.size) (hr : RowAt w r.1 0 d r.2.2) : Ptg (w.setCell ⟨g, i, none⟩ (blV d r)) B gp d (.slice (some ⟨g, 0, none⟩) n c) v (bl.set i r) st /\ PtF B w (w.setCell ⟨g, i, none⟩ (blV d r)) := by
 subst hn
 have hF : PtF B w (w.setCell ⟨g, i, none⟩ (blV d r)) := .of_kept (Kept.setCell w g i (blV d r)) hB fun k e => by
  subst e
  exact ⟨(h.ob.lt k rfl).1, row_not h.ob (by decide) rfl⟩
 refine ⟨⟨h.ub, (set_other w g i gp _ fun e => h.gu (k := g) rfl e.symm).trans h.obj, ?_, trow_at h.os fun b e => set_other w g i b _ fun e2 => h.ap g rfl (by rw [<- e2]; exact e), h.ap, fun x hx => hF.row ?_, fun x hx => hF.row (h.rs x hx)⟩, hF⟩
 ·have h1 := (World.ownsRow.stored h.ob i (blV d r)).1
  rw [List.length_set, show blC d (bl.set i r) = (blC d bl).set i (blV d r) by simp [blC, List.map_set]]
  exact h1
 ·rcases List.mem_or_eq_of_mem_set hx with hx | rfl
  ·exact h.rb x hx
  ·exact hr
theorem Ptg.appB {w w2 : World} {x : Obj} {B gp d n : Nat} {u u' v : Value} {bl st ns : List Bl} (h : Ptg w B gp d u v bl st) (hB : B <= w.heap.size) (hn : n = (bl ++ ns).length) (hO : w2.ownsRow B 82 1 u' n (blC d bl ++ blC d ns)) (hg : (u'.ownBlock = u.ownBlock /\ (w.alloc x).grownBy w2 u.ownBlock) \/ ((∀ k, u'.ownBlock = some k -> (w.alloc x).heap.size <= k) /\ (w.alloc x).grownBy w2 none)) (hr : ∀ r ∈ ns, RowAt w r.1 0 d r.2.2) : Ptg (w2.setCell ⟨gp, 0, none⟩ u') B gp d u' v (bl ++ ns) st /\ PtF B w (w2.setCell ⟨gp, 0, none⟩ u') := by
 subst hn
 have hk : Kept (fun b => u.ownBlock = some b) w w2 := by
  rcases hg with ⟨_, hg⟩ | ⟨_, hg⟩
  ·exact grown_alloc hg
  ·exact (grown_alloc hg).mono fun _ _ h => by cases h
 have hk2 : Kept (fun b => u.ownBlock = some b \/ b = gp) w (w2.setCell ⟨gp, 0, none⟩ u') := (hk.mono fun _ _ h => .inl h).trans ((Kept.setCell w2 gp 0 u').mono fun _ _ h => .inr h)
 have hF : PtF B w (w2.setCell ⟨gp, 0, none⟩ u') := .of_kept hk2 hB fun k e => by
  rcases e with e | e
  ·exact ⟨(h.ob.lt k e).1, row_not h.ob (by decide) e⟩
  ·subst e; exact ⟨h.ub, obj_not h.obj (by decide)⟩
 have ho2 : w2.heap[gp]? = some (.cells #[u, v] 177 (0, 0)) := (hk.block gp (t_lt h.obj) fun e => h.gu e rfl).trans h.obj
 have hug : ∀ k, u'.ownBlock = some k -> k ≠ gp := fun k e e2 => by
  subst e2
  exact own_bk hO ho2 (by decide) e
 refine ⟨⟨h.ub, ?_, ?_, ?_, ?_, fun r hx => hF.row ?_, fun r hx => hF.row (h.rs r hx)⟩, hF⟩
 ·have := heap_setCell_same w2 gp 0 _ _ u' ho2
  simpa using this
 ·rw [show blC d (bl ++ ns) = blC d bl ++ blC d ns by simp [blC]]
  exact trow_at hO fun b e => set_other w2 gp 0 b _ (hug b e)
 ·refine trow_at h.os fun b e => hk2.block b (h.os.lt b e).2 fun e2 => ?_
  rcases e2 with e2 | e2
  ·exact h.ap b e2 e
  ·exact h.gv e e2
 ·intro k e
  rcases hg with ⟨e2, _⟩ | ⟨e2, _⟩
  ·exact h.ap k (by rw [<- e2]; exact e)
  ·intro e3
   have h1 := e2 k e
   have h2 := (h.os.lt k e3).2
   rw [World.size_alloc] at h1
   omega
 ·rcases List.mem_append.1 hx with hx | hx
  ·exact h.rb r hx
  ·exact hr r hx
theorem Ptg.appS {w w2 : World} {x : Obj} {B gp d n : Nat} {u v v' : Value} {bl st ns : List Bl} (h : Ptg w B gp d u v bl st) (hB : B <= w.heap.size) (hn : n = (st ++ ns).length) (hO : w2.ownsRow B 82 1 v' n (blC d st ++ blC d ns)) (hg : (v'.ownBlock = v.ownBlock /\ (w.alloc x).grownBy w2 v.ownBlock) \/ ((∀ k, v'.ownBlock = some k -> (w.alloc x).heap.size <= k) /\ (w.alloc x).grownBy w2 none)) (hr : ∀ r ∈ ns, RowAt w r.1 0 d r.2.2) : Ptg (w2.setCell ⟨gp, 1, none⟩ v') B gp d u v' bl (st ++ ns) /\ PtF B w (w2.setCell ⟨gp, 1, none⟩ v') /\ Kept (fun b => v.ownBlock = some b \/ b = gp) w (w2.setCell ⟨gp, 1, none⟩ v') := by
 subst hn
 have hk : Kept (fun b => v.ownBlock = some b) w w2 := by
  rcases hg with ⟨_, hg⟩ | ⟨_, hg⟩
  ·exact grown_alloc hg
  ·exact (grown_alloc hg).mono fun _ _ h => by cases h
 have hk2 : Kept (fun b => v.ownBlock = some b \/ b = gp) w (w2.setCell ⟨gp, 1, none⟩ v') := (hk.mono fun _ _ h => .inl h).trans ((Kept.setCell w2 gp 1 v').mono fun _ _ h => .inr h)
 have hF : PtF B w (w2.setCell ⟨gp, 1, none⟩ v') := .of_kept hk2 hB fun k e => by
  rcases e with e | e
  ·exact ⟨(h.os.lt k e).1, row_not h.os (by decide) e⟩
  ·subst e; exact ⟨h.ub, obj_not h.obj (by decide)⟩
 have ho2 : w2.heap[gp]? = some (.cells #[u, v] 177 (0, 0)) := (hk.block gp (t_lt h.obj) fun e => h.gv e rfl).trans h.obj
 have hug : ∀ k, v'.ownBlock = some k -> k ≠ gp := fun k e e2 => by
  subst e2
  exact own_bk hO ho2 (by decide) e
 refine ⟨⟨h.ub, ?_, ?_, ?_, ?_, fun r hx => hF.row (h.rb r hx), fun r hx => hF.row ?_⟩, hF, hk2⟩
 ·have := heap_setCell_same w2 gp 1 _ _ v' ho2
  simpa using this
 ·refine trow_at h.ob fun b e => hk2.block b (h.ob.lt b e).2 fun e2 => ?_
  rcases e2 with e2 | e2
  ·exact h.ap b e e2
  ·exact h.gu e e2
 ·rw [show blC d (st ++ ns) = blC d st ++ blC d ns by simp [blC]]
  exact trow_at hO fun b e => set_other w2 gp 1 b _ (hug b e)
 ·intro k e e3
  rcases hg with ⟨e2, _⟩ | ⟨e2, _⟩
  ·exact h.ap k e (by rw [<- e2]; exact e3)
  ·have h1 := e2 k e3
   have h2 := (h.ob.lt k e).2
   rw [World.size_alloc] at h1
   omega
 ·rcases List.mem_append.1 hx with hx | hx
  ·exact h.rs r hx
  ·exact hr r hx
structure Snp (w : World) (g0 d i : Nat) (L : List Bl) (bl : List Bl) (v : Value) : Prop where
 cells : ∀ j r, i <= j -> L[j]? = some r -> w.cell? ⟨g0, j, none⟩ = some (blV d r)
 keep : ∀ j r, i <= j -> L[j]? = some r -> bl[j]? = some r
 ne : v.ownBlock ≠ some g0
 ty : ∃ cs : Array Value, w.heap[g0]? = some (.cells cs 82 (0, 0))
theorem Snp.below {w w' : World} {g0 d i : Nat} {L bl : List Bl} {v : Value} (h : Snp w g0 d i L bl v) (hb : Below w.heap.size w w') : Snp w' g0 d i L bl v := by
 obtain ⟨cs, hcs⟩ := h.ty
 exact ⟨fun j r hj hr => cell_up (h.cells j r hj hr) hb, h.keep, h.ne, cs, (hb.block g0 (t_lt hcs)).trans hcs⟩
theorem Snp.next {w : World} {g0 d i : Nat} {L bl : List Bl} {v : Value} (h : Snp w g0 d i L bl v) : Snp w g0 d (i + 1) L bl v := ⟨fun j r hj => h.cells j r (by omega), fun j r hj => h.keep j r (by omega), h.ne, h.ty⟩
theorem cell_same9 {w w' : World} {b o : Nat} (hb : w'.heap[b]? = w.heap[b]?) {x : Value} (h : w.cell? ⟨b, o, none⟩ = some x) : w'.cell? ⟨b, o, none⟩ = some x := (World.cell?_of_block (a := ⟨b, o, none⟩) hb).trans h
theorem Snp.put {w : World} {g0 g d i : Nat} {L bl : List Bl} {v : Value} {r : Bl} (h : Snp w g0 d i L bl v) : Snp (w.setCell ⟨g, i, none⟩ (blV d r)) g0 d (i + 1) L (bl.set i r) v := by
 obtain ⟨cs, hcs⟩ := h.ty
 refine ⟨fun j x hj hx => ?_, fun j x hj hx => ?_, h.ne, ?_⟩
 ·have h1 := h.cells j x (by omega) hx
  by_cases e : g = g0
  ·subst e
   rw [World.cell?_setCell_other]
   ·exact h1
   ·intro e; injection e with _ e2; omega
  ·exact cell_same9 (set_other w g i g0 _ fun e2 => e e2.symm) h1
 ·rw [List.getElem?_set_ne (by omega)]
  exact h.keep j x (by omega) hx
 ·by_cases e : g = g0
  ·subst e
   exact ⟨_, heap_setCell_same w g i _ _ _ hcs⟩
  ·exact ⟨cs, (set_other w g i g0 _ fun e2 => e e2.symm).trans hcs⟩
theorem Snp.appB {w w2 : World} {x : Obj} {B gp g0 d i n : Nat} {u u' v : Value} {L bl st ns : List Bl} (hP : Ptg w B gp d u v bl st) (h : Snp w g0 d i L bl v) (hn : n = (bl ++ ns).length) (hO : w2.ownsRow B 82 1 u' n (blC d bl ++ blC d ns)) (hg : (u'.ownBlock = u.ownBlock /\ (w.alloc x).grownBy w2 u.ownBlock) \/ ((∀ k, u'.ownBlock = some k -> (w.alloc x).heap.size <= k) /\ (w.alloc x).grownBy w2 none)) : Snp (w2.setCell ⟨gp, 0, none⟩ u') g0 d i L (bl ++ ns) v := by
 obtain ⟨cs, hcs⟩ := h.ty
 have hgp : g0 ≠ gp := fun e => by
  subst e
  exact obj_not hP.obj (by decide) cs hcs
 have hkp : ∀ j r, i <= j -> L[j]? = some r -> (bl ++ ns)[j]? = some r := fun j r hj hr => by
  have h1 := h.keep j r hj hr
  rw [List.getElem?_append_left (List.getElem?_eq_some_iff.1 h1).1]
  exact h1
 have hs := set_other w2 gp 0 g0 u' hgp
 by_cases e : u'.ownBlock = some g0 /\ u'.ownBlock = u.ownBlock
 ·obtain ⟨c9, hc9⟩ := row_cells hO e.1
  refine ⟨fun j r hj hr => cell_same9 hs ?_, hkp, h.ne, c9, hs.trans hc9⟩
  obtain ⟨a, c, rfl⟩ := row_shape hO
  cases a with
  | none => cases e.1
  | some a =>
    have h2 := hO.form (by rw [hn]; have := (List.getElem?_eq_some_iff.1 (hkp j r hj hr)).1; omega)
    obtain ⟨g, cap, h3, _⟩ := h2
    injection h3 with h4
    have h5 := Option.some.inj h4
    subst h5
    have h6 : g = g0 := by have := e.1; simpa [Value.ownBlock] using this
    subst h6
    rw [World.ownsRow.cellAt hO j (by rw [hn]; have := (List.getElem?_eq_some_iff.1 (hkp j r hj hr)).1; omega), show blC d bl ++ blC d ns = blC d (bl ++ ns) by simp [blC]]
    exact blC_at (hkp j r hj hr)
 ·have hb : w2.heap[g0]? = w.heap[g0]? := by
   have hlt := t_lt hcs
   rcases hg with ⟨e2, hg⟩ | ⟨_, hg⟩
   ·exact (grown_alloc hg).block g0 hlt fun e3 => e ⟨by rw [e2]; exact e3, e2⟩
   ·exact (grown_alloc hg).block g0 hlt fun e3 => by cases e3
  exact ⟨fun j r hj hr => cell_same9 (hs.trans hb) (h.cells j r hj hr), hkp, h.ne, cs, (hs.trans hb).trans hcs⟩
theorem Snp.appS {w w2 : World} {x : Obj} {gp g0 d i B : Nat} {u v v' : Value} {L bl st : List Bl} (hP : Ptg w B gp d u v bl st) (h : Snp w g0 d i L bl v) (hk : Kept (fun b => v.ownBlock = some b \/ b = gp) w (w2.setCell ⟨gp, 1, none⟩ v')) (hg : (v'.ownBlock = v.ownBlock /\ (w.alloc x).grownBy w2 v.ownBlock) \/ ((∀ k, v'.ownBlock = some k -> (w.alloc x).heap.size <= k) /\ (w.alloc x).grownBy w2 none)) : Snp (w2.setCell ⟨gp, 1, none⟩ v') g0 d i L bl v' := by
 obtain ⟨cs, hcs⟩ := h.ty
 have hgp : g0 ≠ gp := fun e => by
  subst e
  exact obj_not hP.obj (by decide) cs hcs
 have hb := hk.block g0 (t_lt hcs) fun e => by
  rcases e with e | e
  ·exact h.ne e
  ·exact hgp e
 refine ⟨fun j r hj hr => cell_same9 hb (h.cells j r hj hr), h.keep, fun e => ?_, cs, hb.trans hcs⟩
 rcases hg with ⟨e2, _⟩ | ⟨e2, _⟩
 ·exact h.ne (by rw [<- e2]; exact e)
 ·have h1 := e2 g0 e
  have h2 := t_lt hcs
  rw [World.size_alloc] at h1
  omega
end
section
open Go.RowKit Go.Maps
attribute [local go_sem ↓] Go.wp_at_zero Go.wp_at_succ
theorem wpList_rw_append {ops : Array Oper} {rest : List Oper} {o : Oper} {a : Act} {Q : Exit -> Act -> World -> Prop} (w : World) (hgd : o.guard = none) (s x : Operand) (ho : o.op = .call { callee := .builtin .append, args := #[s, x], argTypes := #[78, 78] })
 (v : Value) (l ns : List Bl) (B d m n c : Nat) (hs : a.eval s = v) (hn : n = l.length) (hq : w.ownsRow B 82 1 v n (blC d l)) (ad : Addr) (hx : a.eval x = .slice (some ad) m c) (hm : ns.length = m) (hc : ∀ j u, (blC d ns)[j]? = some u -> w.cell? (ad.add j) = some u) (hl : n + m <= 1000000) (hB : B <= w.heap.size)
 (h : ∀ v' w', w'.ownsRow B 82 1 v' (n + m) (blC d l ++ blC d ns) -> ((v'.ownBlock = v.ownBlock /\ w.grownBy w' v.ownBlock) \/ ((∀ k, v'.ownBlock = some k -> w.heap.size <= k) /\ w.grownBy w' none)) -> wpList Tryz.prog ops Q rest (a.put o.dst v') w') : wpList Tryz.prog ops Q (o :: rest) a w := by
 have hi := Tryz.infoRw
 cases h0 : Tryz.prog.info? 82 with
 | none => rw [h0] at hi; cases hi
 | some i0 =>
   rw [h0] at hi
   simp only [Option.map_some, Option.some.injEq, Prod.mk.injEq] at hi
   exact wpList_append_keep w hgd s x 78 ho B 82 i0 (.slice none 0 0) 1 24 Tryz.underlying78 h0 hi.1 hi.2.1 hi.2.2 rfl (by decide) v n (blC d l) hs hq ad m c (blC d ns) hx (by rw [blC_len, hm, Nat.mul_one]) hc (fun u hu => by
    obtain ⟨r, _, rfl⟩ := List.mem_map.1 hu
    rfl) (by have : maxLen = 9223372036854775807 := rfl; omega) (by omega) hB h
theorem rw_cell1 (w : World) (v : Value) (d : Nat) (r : Bl) (hv : v = blV d r) : ∀ j u, (blC d [r])[j]? = some u -> (w.alloc (.cells #[v] 82)).cell? ((⟨w.heap.size, 0, none⟩ : Addr).add j) = some u := fun j u hj => by
 subst hv
 rw [addz]
 match j with
 | 0 => exact cell0_of (heap_alloc_new w _) hj
 | j + 1 => cases hj
theorem rw_cell2 (w : World) (v v2 : Value) (d : Nat) (r r2 : Bl) (hv : v = blV d r) (hv2 : v2 = blV d r2) : ∀ j u, (blC d [r, r2])[j]? = some u -> (w.alloc (.cells #[v, v2] 82)).cell? ((⟨w.heap.size, 0, none⟩ : Addr).add j) = some u := fun j u hj => by
 subst hv; subst hv2
 rw [addz]
 match j with
 | 0 => exact cell0_of (heap_alloc_new w _) hj
 | 1 => exact cell0_of (heap_alloc_new w _) hj
 | j + 2 => cases hj
theorem ptg_cells {w : World} {B gp d : Nat} {u v : Value} {bl st : List Bl} (h : Ptg w B gp d u v bl st) : w.cell? ⟨gp, 0, none⟩ = some u /\ w.cell? ⟨gp, 1, none⟩ = some v /\ w.frozen? ⟨gp, 0, none⟩ = false /\ w.frozen? ⟨gp, 1, none⟩ = false := ⟨cell0_of h.obj rfl, cell0_of h.obj rfl, blk_free h.obj 0, blk_free h.obj 1⟩
theorem ptg_box {w w2 : World} {x : Obj} {B gp d : Nat} {u v v0 : Value} {bl st : List Bl} (h : Ptg w B gp d u v bl st) (hv : v0 = u \/ v0 = v) {P Q : Prop} (hg : (P /\ (w.alloc x).grownBy w2 v0.ownBlock) \/ (Q /\ (w.alloc x).grownBy w2 none)) : w2.heap[gp]? = some (.cells #[u, v] 177 (0, 0)) := by
 have hk : Kept (fun b => v0.ownBlock = some b) w w2 := by
  rcases hg with ⟨_, hg⟩ | ⟨_, hg⟩
  ·exact grown_alloc hg
  ·exact (grown_alloc hg).mono fun _ _ h => by cases h
 refine (hk.block gp (t_lt h.obj) fun e => ?_).trans h.obj
 rcases hv with rfl | rfl
 ·exact h.gu e rfl
 ·exact h.gv e rfl
theorem Ptg.slot {w : World} {B gp d g n c i : Nat} {v : Value} {bl st : List Bl} {r : Bl} (h : Ptg w B gp d (.slice (some ⟨g, 0, none⟩) n c) v bl st) (hn : n = bl.length) (hi : bl[i]? = some r) : w.cell? ⟨g, i, none⟩ = some (blV d r) /\ w.frozen? ⟨g, i, none⟩ = false := by
 subst hn
 exact ⟨by rw [World.ownsRow.cellAt h.ob i (by have := (List.getElem?_eq_some_iff.1 hi).1; omega)]; exact blC_at hi, World.ownsRow.frozenAt h.ob i⟩
theorem row_alloc {w : World} {x : Obj} {B : Nat} {e : TypeId} {s : Nat} {v : Value} {n : Nat} {xs : List Value} (h : w.ownsRow B e s v n xs) : (w.alloc x).ownsRow B e s v n xs := trow_at h fun b hb => ((Below.refl _ _).alloc (Nat.le_refl _) x).block b (h.lt b hb).2
set_option linter.unusedSimpArgs false in
set_option maxRecDepth 100000 in
set_option maxHeartbeats 16000000 in
theorem wsplit_any (w : World) (B gp d g1 c1 : Nat) (can : Nat -> Bool) (u v : Value) (L st : List Bl) (hd0 : 0 < d) (hd : d <= 10000) (hB : B <= w.heap.size) (hP : Ptg w B gp d u v L st) (hC : RowAt w g1 0 d can) (hL : L.length <= 10000) (hs : st.length <= 10000) (h0 : 0 < L.length) :
 Calls Tryz.prog 131 #[.pointer (some ⟨gp, 0, none⟩), rowV g1 0 d c1] w fun r w' => (∃ x, r = .returned x) /\ (∃ u' v' bl' st', Ptg w' B gp d u' v' bl' st' /\ (blS bl', blS st') = Wk.spI (64 * d) can (blS L, blS st) L.length) /\ PtF B w w' := by
 obtain ⟨g0, cap, hu, _, hg0⟩ := hP.ob.form h0
 subst hu
 obtain ⟨N, hN⟩ : ∃ N, N = L.length := ⟨_, rfl⟩
 obtain ⟨x0, x1, _, _⟩ := ptg_cells hP
 have hS0 : Snp w g0 d 0 L L v := ⟨fun j r _ hr => by
  rw [World.ownsRow.cellAt hP.ob j (by have := (List.getElem?_eq_some_iff.1 hr).1; omega)]; exact blC_at hr, fun _ _ _ h => h, hP.ap g0 rfl, row_cells hP.ob rfl⟩
 have H0 : Hid _ := And.intro hP (And.intro hC (And.intro hS0 (And.intro hN (And.intro hL (And.intro hs hB)))))
 rw [<- hN] at x0 hL ⊢
 clear hP hC hS0 hN hs h0
 unfold rowV
 go_enter Tryz.func131, Tryz.ntmps131
 go_wp2_with fail
 go_loopg [13] N (fun q iv wr => ∃ (i : Nat) (u' v' : Value) (bl st' : List Bl), q = N - i /\ i <= N /\ iv = .int .i64 i /\ Ptg wr B gp d u' v' bl st' /\ Snp wr g0 d i L bl v' /\ (blS bl, blS st') = Wk.spI (64 * d) can (blS L, blS st) i /\ PtF B w wr)
 case atStart => exact ⟨0, _, _, L, st, rfl, Nat.zero_le _, rfl, H0.out.1, H0.out.2.2.1, rfl, PtF.refl _ _⟩
 case round =>
  clear x0 x1
  obtain ⟨i, u', v', bl, st', rfl, hi, rfl, hP, hS, hE, hF⟩ := hrel
  by_cases hlt : i < N
  ·have q0 : (0 : Int) <= (i : Int) := by omega
   have q1 : (i : Int) < (N : Int) := by omega
   obtain ⟨r, hr⟩ : ∃ r, L[i]? = some r := ⟨_, List.getElem?_eq_getElem (by have := H0.out.2.2.2.1; omega)⟩
   have hbl := hS.keep i r (Nat.le_refl _) hr
   have c0 := hS.cells i r (Nat.le_refl _) hr
   have hRr := hP.rb r (List.mem_of_getElem? hbl)
   have hCr := hF.row H0.out.2.1
   have hbS := blS_at hbl
   have hMe := meetsRow_any r.1 0 d r.2.1 g1 0 c1 r.2.2 can wr hd hRr hCr
   have hWi := withinRow_any r.1 0 d r.2.1 g1 0 c1 r.2.2 can wr hd hRr hCr
   have hPa := partedRow_any r.1 0 d r.2.1 g1 0 c1 r.2.2 can wr hd0 hd hRr hCr
   have hlen := Wk.spI_len (64 * d) can (blS L, blS st) i
   rw [<- hE] at hlen
   simp only [blS_len] at hlen
   obtain ⟨gu, cu, rfl, _, _⟩ := hP.ob.form (by have := (List.getElem?_eq_some_iff.1 hbl).1; omega)
   obtain ⟨NB, hNB⟩ : ∃ NB, NB = bl.length := ⟨_, rfl⟩
   have q2 : (i : Int) < (NB : Int) := by have := (List.getElem?_eq_some_iff.1 hbl).1; omega
   rw [<- hNB] at hP
   have HP : Hid _ := And.intro hP (And.intro hS (And.intro hE (And.intro hF (And.intro hbl (And.intro hlen hPa)))))
   have HN : Hid _ := hNB
   clear hNB
   have hst : blS bl = (Wk.spI (64 * d) can (blS L, blS st) i).1 := by rw [<- hE]
   have hE2 : Hid ((Wk.spI (64 * d) can (blS L, blS st) i).1[i]? = some r.2.2) := by rw [hst] at hbS; exact hbS
   clear hP hS hE hF hbl hRr hCr hbS hPa hlen hst
   unfold blV rowV at c0
   unfold rowV at hMe hWi HP
   by_cases hm : meetS r.2.2 can (64 * d) = true
   ·by_cases hw : withS r.2.2 can (64 * d) = true
    ·have hno := Wk.sp1_no hE2.out (.inr hw)
     rw [hm] at hMe
     rw [hw] at hWi
     have HQ : Hid _ := And.intro hMe (And.intro hWi hno)
     clear hMe hWi hno hm hw
     go_wp2_with (first
      | (go_at_call 150; refine Calls.mono HQ.out.1 ?_; rintro r3 wa ⟨rfl, hwa⟩; obtain rfl := hwa.symm; clear hwa)
      | (go_at_call 151; refine Calls.mono HQ.out.2.1 ?_; rintro r3 wa ⟨rfl, hwa⟩; obtain rfl := hwa.symm; clear hwa))
     go_roundg (N - (i + 1))
     case measure => omega
     case rel => exact ⟨i + 1, _, _, bl, st', rfl, by omega, by go_num, HP.out.1, HP.out.2.1.next, HP.out.2.2.1.trans HQ.out.2.2.symm, HP.out.2.2.2.1⟩
    ·have hw2 : withS r.2.2 can (64 * d) = false := by simpa using hw
     have hyes := Wk.sp1_yes hE2.out hm hw2
     rw [hm] at hMe
     rw [hw2] at hWi
     have HQ : Hid _ := And.intro hMe (And.intro hWi hyes)
     clear hMe hWi hyes hm hw hw2
     go_upto_region 4 with (first
      | (go_at_call 150; refine Calls.mono HQ.out.1 ?_; rintro r3 wa ⟨rfl, hwa⟩; obtain rfl := hwa.symm; clear hwa)
      | (go_at_call 151; refine Calls.mono HQ.out.2.1 ?_; rintro r3 wa ⟨rfl, hwa⟩; obtain rfl := hwa.symm; clear hwa))
     go_upto_region 5 with (go_at_call 152; refine Calls.mono HP.out.2.2.2.2.2.2 ?_; rintro r4 w2 ⟨ga, ca, gb, cb, rfl, hRa, hRb, _, _, _, hb2⟩; have hP2 := HP.out.1.below hb2; have hS2 := HP.out.2.1.below hb2; obtain ⟨y0, y1, f0, f1⟩ := ptg_cells hP2; obtain ⟨d0, d1⟩ := hP2.slot HN.out HP.out.2.2.2.2.1; have hF2 := HP.out.2.2.2.1.trans (PtF.of_below (HP.out.2.2.2.1.bl.size |> fun h => Nat.le_trans H0.out.2.2.2.2.2.2 h) hb2); have H2 : Hid _ := And.intro hP2 (And.intro hS2 (And.intro hF2 (And.intro hRa hRb))); clear hP2 hS2 hF2 hRa hRb hb2; unfold blV rowV at d0)
     go_upto_region 6 with fail
     obtain ⟨w3, hw3⟩ : ∃ w3, w3 = w2.setCell ⟨gu, i, none⟩ (.slice (some ⟨ga, 0, none⟩) d ca) := ⟨_, rfl⟩
     have h3 := H2.out.1.put (i := i) (r := (ga, ca, Wk.inP r.2.2 can)) HN.out (Nat.le_trans H0.out.2.2.2.2.2.2 H2.out.2.2.1.bl.size) H2.out.2.2.2.1
     have hS3 := H2.out.2.1.put (g := gu) (r := (ga, ca, Wk.inP r.2.2 can))
     unfold blV rowV at h3 hS3
     rw [<- hw3] at h3 hS3 ⊢
     obtain ⟨hP3, hF3⟩ := h3
     have hR3 := hF3.row H2.out.2.2.2.2
     have hF03 := H2.out.2.2.1.trans hF3
     have hO3 : w3.ownsRow B 82 1 (.slice (some ⟨gu, 0, none⟩) NB cu) NB (blC d (bl.set i (ga, ca, Wk.inP r.2.2 can))) := by
      have := hP3.ob
      rwa [List.length_set, <- HN.out] at this
     have hRa3 := hF3.row H2.out.2.2.2.1
     clear y0 y1 f0 f1 d0 d1 hw3
     obtain ⟨y0, y1, f0, f1⟩ := ptg_cells hP3
     have H3 : Hid _ := And.intro hP3 (And.intro hS3 (And.intro hR3 (And.intro hF03 (And.intro hO3 hRa3))))
     clear hP3 hS3 hR3 hF03 hO3 hRa3 hF3
     go_upto_region 7 with (at_builtin; refine wpList_rw_append _ rfl _ _ rfl (.slice (some ⟨gu, 0, none⟩) NB cu) (bl.set i (ga, ca, Wk.inP r.2.2 can)) [(gb, cb, Wk.outP r.2.2 can)] B d 1 NB 1 rfl (by rw [List.length_set]; exact HN.out) (row_alloc H3.out.2.2.2.2.1) ⟨w3.heap.size, 0, none⟩ rfl rfl (rw_cell1 w3 _ d _ rfl) (by have := HP.out.2.2.2.2.2.1.1; have := HN.out; have := H0.out.2.2.2.2.1; omega) (by have := H0.out.2.2.2.2.2.2; have := H3.out.2.2.2.1.bl.size; simp; omega) ?_; intro vn wn hO hg; obtain ⟨an, cn, rfl⟩ := row_shape hO; have hobj := ptg_box H3.out.1 (.inl rfl) hg; have z0 : wn.cell? ⟨gp, 0, none⟩ = some (.slice (some ⟨gu, 0, none⟩) NB cu) := cell0_of hobj rfl; have zf := blk_free hobj 0; have H6 : Hid _ := And.intro hO hg; clear hO hg hobj y0 y1 f0 f1)
     have h4 := H3.out.1.appB (by have := H0.out.2.2.2.2.2.2; have := H3.out.2.2.2.1.bl.size; omega) (by rw [List.length_append, List.length_set, <- HN.out]; rfl) H6.out.1 H6.out.2 (fun x hx => by obtain rfl := List.mem_singleton.1 hx; exact H3.out.2.2.1)
     have hS4 := H3.out.2.1.appB H3.out.1 (by rw [List.length_append, List.length_set, <- HN.out]; rfl) H6.out.1 H6.out.2
     obtain ⟨w4, hw4⟩ : ∃ w4, w4 = wn.setCell ⟨gp, 0, none⟩ (.slice an (NB + 1) cn) := ⟨_, rfl⟩
     rw [<- hw4] at h4 hS4 ⊢
     obtain ⟨hP4, hF4⟩ := h4
     have hRa4 := hF4.row H3.out.2.2.2.2.2
     have hRb4 := hF4.row H3.out.2.2.1
     have hF04 := H3.out.2.2.2.1.trans hF4
     obtain ⟨y0, y1, f0, f1⟩ := ptg_cells hP4
     have H4 : Hid _ := And.intro hP4 (And.intro hS4 (And.intro hRa4 (And.intro hRb4 hF04)))
     clear hP4 hS4 hRa4 hRb4 hF04 hF4 hw4 z0 zf
     go_upto_region 8 with (at_builtin; refine wpList_rw_append _ rfl _ _ rfl v' st' [(ga, ca, Wk.inP r.2.2 can), (gb, cb, Wk.outP r.2.2 can)] B d 2 st'.length 2 rfl rfl (row_alloc H4.out.1.os) ⟨w4.heap.size, 0, none⟩ rfl rfl (rw_cell2 w4 _ _ d _ _ rfl rfl) (by have := HP.out.2.2.2.2.2.1.2; have := H0.out.2.2.2.2.2.1; omega) (by have := H0.out.2.2.2.2.2.2; have := H4.out.2.2.2.2.bl.size; simp; omega) ?_; intro vm wm hO hg; obtain ⟨am, cm, rfl⟩ := row_shape hO; have hobj := ptg_box H4.out.1 (.inr rfl) hg; have z1 : wm.cell? ⟨gp, 1, none⟩ = some v' := cell0_of hobj rfl; have zf := blk_free hobj 1; have H7 : Hid _ := And.intro hO hg; clear hO hg hobj y0 y1 f0 f1)
     have h5 := H4.out.1.appS (by have := H0.out.2.2.2.2.2.2; have := H4.out.2.2.2.2.bl.size; omega) (by rw [List.length_append]; rfl) H7.out.1 H7.out.2 (fun x hx => by
      rcases List.mem_cons.1 hx with rfl | hx
      ·exact H4.out.2.2.1
      ·obtain rfl := List.mem_singleton.1 hx
       exact H4.out.2.2.2.1)
     have hS5 := H4.out.2.1.appS (B := B) H4.out.1 h5.2.2 H7.out.2
     obtain ⟨w5, hw5⟩ : ∃ w5, w5 = wm.setCell ⟨gp, 1, none⟩ (.slice am (st'.length + 2) cm) := ⟨_, rfl⟩
     rw [<- hw5] at h5 hS5 ⊢
     have H5 : Hid _ := And.intro h5 hS5
     clear h5 hS5 hw5 z1 zf
     go_wp2_with fail
     go_roundg (N - (i + 1))
     case measure => omega
     case rel =>
      refine ⟨i + 1, _, _, _, _, rfl, by omega, by go_num, H5.out.1.1, H5.out.2, ?_, H4.out.2.2.2.2.trans H5.out.1.2.1⟩
      show _ = Wk.sp1 (64 * d) can (Wk.spI (64 * d) can (blS L, blS st) i) i
      rw [HQ.out.2.2, <- HP.out.2.2.1]
      simp [blS, List.map_set]
   ·have hm2 : meetS r.2.2 can (64 * d) = false := by simpa using hm
    have hno := Wk.sp1_no hE2.out (.inl hm2)
    rw [hm2] at hMe
    have HQ : Hid _ := And.intro hMe hno
    clear hMe hWi hno hm hm2
    go_wp2_with (go_at_call 150; refine Calls.mono HQ.out.1 ?_; rintro r3 wa ⟨rfl, hwa⟩; obtain rfl := hwa.symm; clear hwa)
    go_roundg (N - (i + 1))
    case measure => omega
    case rel => exact ⟨i + 1, _, _, bl, st', rfl, by omega, by go_num, HP.out.1, HP.out.2.1.next, HP.out.2.2.1.trans HQ.out.2.symm, HP.out.2.2.2.1⟩
  ·obtain rfl : i = N := by omega
   have h1 : ¬ (i : Int) < (i : Int) := by omega
   have HP : Hid _ := And.intro hP (And.intro hE hF)
   clear hP hS hE hF
   go_wp2_with fail
   go_end0
   exact ⟨⟨_, rfl⟩, ⟨_, _, _, _, HP.out.1, HP.out.2.1⟩, HP.out.2.2⟩
end
section
open Go.RowKit Go.Maps Go.Shelf
attribute [local go_sem] Oper.semAt_some
def Wk.nm (bs : List (Nat -> Bool)) : Nat -> Nat -> Nat
 | 0, _ => 0
 | j + 1, q => if ((bs[j]?).getD fun _ => false) q = true then j else Wk.nm bs j q
theorem Wk.nm_le (bs : List (Nat -> Bool)) : ∀ j q, Wk.nm bs j q <= j
 | 0, _ => Nat.le_refl _
 | j + 1, q => by
   show (if _ then j else Wk.nm bs j q) <= _
   have := Wk.nm_le bs j q
   split <;> omega
def KN (gc : Nat) (A C : World) : Prop := A.heap.size <= C.heap.size /\ ∀ g, g < A.heap.size -> g ≠ gc -> C.heap[g]? = A.heap[g]?
theorem KN.refl (gc : Nat) (A : World) : KN gc A A := ⟨Nat.le_refl _, fun _ _ _ => rfl⟩
theorem KN.trans {gc : Nat} {A C D : World} (h : KN gc A C) (k : KN gc C D) : KN gc A D := ⟨Nat.le_trans h.1 k.1, fun g hg ht => (k.2 g (Nat.lt_of_lt_of_le hg h.1) ht).trans (h.2 g hg ht)⟩
theorem kn_own {α : Type} {B gc : Nat} {w6 : World} (hB : w6.heap.size <= B) : OwnFrom (β := List α) B fun _ W => KN gc w6 W := fun _ W W' row hs hg hr => by
 refine ⟨Nat.le_trans hs.1 hg.size, fun g hlt ht => (hg.block g (Nat.lt_of_lt_of_le hlt hs.1) fun e => ?_).trans (hs.2 g hlt ht)⟩
 have := (hr g e.symm).1
 omega
theorem list_from {α : Type} {B gc m : Nat} {ty : TypeId} {f : List α -> Nat -> Value} : OwnFrom (β := List α) B fun pre W => ListAt ty W gc m (f pre) := fun _ W W' row hs hg hr => hs.at (hg.block gc hs.lt fun e => by
 obtain ⟨o, h1, h2⟩ := (hr gc e.symm).2
 obtain ⟨cs, h3, _⟩ := hs
 rw [h3] at h1
 injection h1 with h1
 subst h1
 cases h2)
theorem KN.set (gc o : Nat) (W : World) (v : Value) : KN gc W (W.setCell ⟨gc, o, none⟩ v) := ⟨by simp, fun g _ hne => set_other W gc o g v hne⟩
theorem kn_box {gc : Nat} {A C : World} {b : Nat} {o : Obj} (h : KN gc A C) (hb : A.heap[b]? = some o) (h1 : b ≠ gc) : C.heap[b]? = some o := (h.2 b (t_lt hb) h1).trans hb
structure NbS (w W : World) (m : Nat) (f : Nat -> Nat) (ds : List Deferred) : Prop where
 bl : Below w.heap.size w W
 cl : ListAt 3 W w.heap.size m fun q => .int .i64 (f q : Nat)
 cx : Boxed W (w.heap.size + 1) 57 (.slice (some ⟨w.heap.size, 0, none⟩) m m)
 mks : Marks w.heap.size ds W
theorem NbS.below {w W W' : World} {m : Nat} {f : Nat -> Nat} {ds : List Deferred} (h : NbS w W m f ds) (hb : Below W.heap.size W W') : NbS w W' m f ds := ⟨h.bl.trans (hb.mono h.bl.size), h.cl.below hb, (hb.block _ h.cx.lt).trans h.cx, h.mks.keep fun D _ hd _ => (hb.block D (Array.getElem?_eq_some_iff.1 hd).1).trans hd⟩
set_option linter.unusedSimpArgs false in
set_option maxRecDepth 100000 in
set_option maxHeartbeats 16000000 in
theorem wnumb_any (w : World) (B gp d m : Nat) (u v : Value) (bl st : List Bl) (hP : Ptg w B gp d u v bl st) (hTb : TabW w) (hm : m <= 300) (hd : d = Br.wds m) (hin : ∀ r ∈ bl, ∀ q, r.2.2 q = true -> q < m) (h0 : 0 < bl.length) (hl : bl.length <= 10000) :
 Calls Tryz.prog 133 #[.pointer (some ⟨gp, 0, none⟩), .int .i64 m] w fun r w' => ∃ uc, r = .returned uc /\ OwnI w' w.heap.size uc (natI (Sy.canon ((List.range m).map fun q => (Wk.nm (blS bl) bl.length q : Int)))) /\ Below w.heap.size w w' := by
 obtain ⟨gu, cu, rfl, _, _⟩ := hP.ob.form h0
 obtain ⟨N, hN⟩ : ∃ N, N = bl.length := ⟨_, rfl⟩
 obtain ⟨x0, _, _, _⟩ := ptg_cells hP
 have mk := makeI m (by omega) w
 have H0 : Hid _ := And.intro hP (And.intro hTb (And.intro hd (And.intro hin (And.intro hN hl))))
 rw [<- hN] at x0 hl ⊢
 clear hP hTb hd hin hN
 refine (callsIn_wide (n := 3)).1 ?_
 refine callsIn_of_wp_marks Tryz.func133 rfl trivial ?_ rfl
 simp only [Tryz.ntmps133, List.size_toArray, List.length_cons, List.length_nil, Nat.reduceAdd, Nat.reduceSub, Array.replicate_succ, Array.replicate_zero, List.push_toArray, List.append_toArray, List.nil_append, List.cons_append]
 gi_upto_region 2 with fail
 clear mk
 obtain ⟨w3, hw3⟩ : ∃ w3, w3 = (w.alloc (.cells (madeV (.int .i64 0) m) 3)).alloc (.cells #[.slice (some ⟨w.heap.size, 0, none⟩) m m] 57) := ⟨_, rfl⟩
 rw [<- hw3]
 have hbA : Below w.heap.size w (w.alloc (.cells (madeV (.int .i64 0) m) 3)) := (Below.refl _ _).alloc (Nat.le_refl _) _
 have hbX : Below (w.alloc (.cells (madeV (.int .i64 0) m) 3)).heap.size (w.alloc (.cells (madeV (.int .i64 0) m) 3)) w3 := by rw [hw3]; exact (Below.refl _ _).alloc (Nat.le_refl _) _
 have hS3 : NbS w w3 m (Wk.nm (blS bl) 0) [] := by
  refine ⟨hbA.trans (hbX.mono hbA.size), ((listAt_new 3 (.int .i64 0) rfl w m).below hbX).congr fun _ _ => rfl, ?_, trivial⟩
  rw [hw3]
  exact two_alloc w (.cells (madeV (.int .i64 0) m) 3) (.cells #[.slice (some ⟨w.heap.size, 0, none⟩) m m] 57)
 have H3 : Hid _ := hS3
 clear hw3 hS3 hbA hbX
 have x0 := (H3.out.bl.cell (World.block_lt_of_cell? w _ x0)).trans x0
 gi_wp2
 refine wpIn_loop (fun a' w' => ∃ (i : Nat) (ds : List Deferred) (u6 u7 u8 u17 u18 u19 u20 u21 u22 u23 u24 u25 u26 u27 u28 : Value), a' = { tmps := #[(.pointer (some ⟨gp, 0, none⟩)), .int .i64 m, undef, undef, .slice none 0 0, (.pointer (some ⟨w.heap.size + 1, 0, none⟩)), u6, u7, u8, .int .i64 m, .slice (some ⟨w.heap.size, 0, none⟩) m m, (.pointer (some ⟨gp, 0, none⟩)), (.pointer (some ⟨gp, 0, none⟩)), (.pointer (some ⟨gp, 0, none⟩)), .slice (some ⟨gu, 0, none⟩) N cu, .int .i64 N, .int .i64 i, u17, u18, u19, u20, u21, u22, u23, u24, u25, u26, u27, u28, undef, undef], defers := ds } /\ i <= N /\ NbS w w' m (Wk.nm (blS bl) i) ds) (fun a' _ => N - (intOf (a'.tmps.getD 16 undef)).toNat) ⟨0, [], _, _, _, _, _, _, _, _, _, _, _, _, _, _, _, rfl, Nat.zero_le _, H3.out⟩ ?_
 rintro _ wr ⟨i, ds, u6, u7, u8, u17, u18, u19, u20, u21, u22, u23, u24, u25, u26, u27, u28, rfl, hi, hS⟩
 clear x0
 by_cases hlt : i < N
 ·have q0 : (0 : Int) <= (i : Int) := by omega
  have q1 : (i : Int) < (N : Int) := by omega
  obtain ⟨r, hr⟩ : ∃ r, bl[i]? = some r := ⟨_, List.getElem?_eq_getElem (by have := H0.out.2.2.2.2.1; omega)⟩
  have hPq := H0.out.1.below (B := B) (hS.bl)
  have c0 := (hPq.slot rfl hr).1
  have hRr := hPq.rb r (List.mem_of_getElem? hr)
  obtain ⟨b6, hb6⟩ : ∃ b6, b6 = wr.heap.size := ⟨_, rfl⟩
  obtain ⟨w4, hw4⟩ : ∃ w4, w4 = wr.alloc (.cells #[.int .i64 i] 3) := ⟨_, rfl⟩
  have hb4 : Below wr.heap.size wr w4 := by rw [hw4]; exact (Below.refl _ _).alloc (Nat.le_refl _) _
  have hB4 : Boxed w4 b6 3 (.int .i64 i) := by rw [hw4, hb6]; exact Boxed.new wr _ _
  have hAl := allRow_any r.1 0 d r.2.1 w4
  unfold rowV allV at hAl
  have HS : Hid _ := And.intro (hS.below hb4) (And.intro hB4 (And.intro (hRr.below hb4) (And.intro hAl (And.intro hw4 hb6))))
  have hne6 : b6 ≠ w.heap.size /\ b6 < w4.heap.size := by have := hS.cl.lt; rw [hw4, World.size_alloc]; omega
  clear hS hb4 hB4 hRr hAl hw4 hb6 hPq
  unfold blV rowV at c0
  gi_upto_region 5 with fail
  rw [<- HS.out.2.2.2.2.1, <- HS.out.2.2.2.2.2]
  clear c0
  gi_wp2
  refine ⟨trivial, (callsIn_wide.2 HS.out.2.2.2.1).mono ?_⟩
  rintro e w6 ⟨rfl, hw6⟩
  obtain ⟨bx, hbx⟩ : ∃ bx, bx = w4.heap.size := ⟨_, rfl⟩
  have hb6 : Below w4.heap.size w4 w6 := by rw [hw6]; exact (Below.refl _ _).alloc (Nat.le_refl _) _
  have hBx : Boxed w6 bx 82 (rowV r.1 0 d r.2.1) := by rw [hw6, hbx]; exact Boxed.new w4 _ _
  rw [<- hbx]
  have H6 : Hid _ := And.intro (HS.out.1.below hb6) (And.intro ((hb6.block _ (t_lt HS.out.2.1)).trans HS.out.2.1 : Boxed w6 b6 3 (.int .i64 i)) (And.intro hBx (HS.out.2.2.1.below hb6)))
  have hnx : bx ≠ w.heap.size := by have := HS.out.1.cl.lt; omega
  have hrg := (H0.out.1.rb r (List.mem_of_getElem? hr)).lt
  clear HS hw6 hbx hb6 hBx
  have hle6 := H6.out.1.bl.size
  have hdd : d <= 10000 := by rw [H0.out.2.2.1]; unfold Br.wds; omega
  have ltg := H6.out.2.2.2.lt
  have ltt := H0.out.2.1.lt
  have lbx := H6.out.2.2.1.lt
  gi_wp2
  refine loop_tells rfl (by omega) (gf := 104) (lb := #[.pointer (some ⟨bx, 0, none⟩)]) rfl trivial (enters_of Tryz.func104 (by kernel_rfl) rfl)
   (row_tells 2 r.1 0 d r.2.1 bx r.2.2 w6 hdd H6.out.2.2.1.cell H6.out.2.2.2 (H0.out.2.1.below H0.out.2.1.lt H6.out.1.bl)) (fun h k => h.trans k) (fun W l o o' hl _ _ _ => KpB.put (B := w6.heap.size) lbx ltg (by omega) W l o' hl) (fun pre x W l o o' _ hl ho h => h) (Below.refl _ _) (fun _ => rfl)
   (fun pre W => ListAt 3 W w.heap.size m (fun q => .int .i64 ((if q ∈ pre then i else Wk.nm (blS bl) i q : Nat) : Nat)) /\ KN w.heap.size w6 W /\ Below w.heap.size w W)
   (fun _ _ _ => False)
   (OwnFrom.and list_from (OwnFrom.and (kn_own (Nat.le_refl _)) (ownFrom_below (Nat.le_refl _) hle6)))
   (fun _ _ _ _ _ hs _ _ => hs)
   ⟨H6.out.1.cl.congr (fun q _ => by simp), KN.refl _ _, H6.out.1.bl⟩
   (fun x => { tmps := #[(.pointer (some ⟨gp, 0, none⟩)), .int .i64 m, undef, undef, .slice none 0 0, (.pointer (some ⟨w.heap.size + 1, 0, none⟩)), (.pointer (some ⟨b6, 0, none⟩)), .slice (some ⟨r.1, 0, none⟩) d r.2.1, .int .i64 x, .int .i64 m, .slice (some ⟨w.heap.size, 0, none⟩) m m, (.pointer (some ⟨gp, 0, none⟩)), (.pointer (some ⟨gp, 0, none⟩)), (.pointer (some ⟨gp, 0, none⟩)), .slice (some ⟨gu, 0, none⟩) N cu, .int .i64 N, .int .i64 i, .bool true, .int .i64 i, (.pointer (some ⟨gu, i, none⟩)), .slice (some ⟨r.1, 0, none⟩) d r.2.1, .slice (some ⟨r.1, 0, none⟩) d r.2.1, (.func (.func 104) #[] #[.pointer (some ⟨bx, 0, none⟩)]), .int .i64 x, u24, u25, u26, u27, u28, undef, undef], defers := [] }) ?assign ?body ?done ?stop
  case assign =>
   intro l x W K hK
   gi_wp2
   exact hK
  case body =>
   rintro l pre x W ⟨hcl, hK, hbW⟩ ⟨hG, hx, hxs⟩
   have hxm : x < m := H0.out.2.2.2.1 r (List.mem_of_getElem? hr) x hxs
   have e5 : Boxed W (w.heap.size + 1) 57 (.slice (some ⟨w.heap.size, 0, none⟩) m m) := kn_box hK H6.out.1.cx (by omega)
   have e6 : Boxed W b6 3 (.int .i64 i) := kn_box hK H6.out.2.1 hne6.1
   have c5 := e5.cell
   have c6 := e6.cell
   have d0 := hcl.cell hxm
   have d1 := hcl.free x
   have p0 : (0 : Int) <= (x : Int) := by omega
   have p1 : (x : Int) < (m : Int) := by omega
   have HW : Hid _ := And.intro hcl (And.intro hK (And.intro hbW hG))
   clear hcl hK hbW hG hxs e5 e6
   gi_wp2
   have hcl6 := H6.out.1.cl.lt
   refine ⟨⟨by simp, fun k o hk ho _ => (set_other W w.heap.size x k _ (by omega)).trans ho⟩, fun g hg jj vv hvv => ?_, (HW.out.1.put (i := x) (.int .i64 (i : Nat))).congr fun q _ => ?_, HW.out.2.1.trans (KN.set _ _ _ _), HW.out.2.2.1.setCell (Nat.le_refl _) _⟩
   ·have hne : g ≠ w.heap.size := by
     rcases hg with rfl | rfl | rfl
     ·exact hnx
     ·omega
     ·omega
    exact cell_same9 (set_other W w.heap.size x g _ hne) hvv
   ·by_cases e : q = x
    ·simp [e]
    ·simp [e]
  case done =>
   rintro D xs W hD rfl ⟨hcl, hK, hbW⟩ hKd
   have hbi := blS_at hr
   have hcl2 : ListAt 3 W w.heap.size m fun q => .int .i64 (Wk.nm (blS bl) (i + 1) q : Nat) := hcl.congr fun q hq => by
    have h1 : Wk.nm (blS bl) (i + 1) q = if r.2.2 q = true then i else Wk.nm (blS bl) i q := by
     show (if (((blS bl)[i]?).getD fun _ => false) q = true then i else _) = _
     rw [hbi]
     rfl
    rw [h1]
    have h2 : q < 64 * d := by rw [H0.out.2.2.1]; unfold Br.wds; omega
    by_cases e : r.2.2 q = true
    ·rw [if_pos (Br.els_mem.2 ⟨h2, e⟩), if_pos e]
    ·rw [if_neg fun h => e (Br.els_mem.1 h).2, if_neg e]
   have hmk : Marks w.heap.size ({ target := .collected D, args := #[] } :: ds) W := (H6.out.1.mks.keep fun E _ hd _ => kn_box hK hd fun e => by
    subst e
    obtain ⟨cs, h, _⟩ := H6.out.1.cl
    rw [h] at hd
    cases hd).cons (by omega) hKd fun E hE => by have := (H6.out.1.mks.lt E hE).2; omega
   have HD : Hid (NbS w W m (Wk.nm (blS bl) (i + 1)) _) := ⟨hbW, hcl2, kn_box hK H6.out.1.cx (by omega), hmk⟩
   clear hcl hcl2 hmk hK hbW hKd hbi
   gi_wp2
   refine ⟨⟨i + 1, _, _, _, _, _, _, _, _, _, _, _, _, _, _, _, _, rfl, by omega, HD.out⟩, ?_⟩
   exact (by
    show N - ((i : Int) + 1).toNat < N - (i : Int).toNat
    omega)
  case stop =>
   rintro D c pre W _ _ h _
   exact h.elim
 ·have q1 : ¬ (i : Int) < (N : Int) := by omega
  obtain rfl : i = N := by omega
  have c5 := hS.cx.cell
  obtain ⟨zs, hzs⟩ : ∃ zs, zs = (List.range m).map fun q => (Wk.nm (blS bl) i q : Int) := ⟨_, rfl⟩
  have hzl : zs.length = m := by rw [hzs]; simp
  have hzm : ∀ (q : Nat) (z : Int), zs[q]? = some z -> z = (Wk.nm (blS bl) i q : Nat) /\ q < m := fun q z hz => by
   have hq : q < m := by rw [<- hzl]; exact (List.getElem?_eq_some_iff.1 hz).1
   rw [hzs, List.getElem?_map, List.getElem?_range hq] at hz
   exact ⟨(Option.some.inj hz).symm, hq⟩
  have hCn := pCanon (.slice (some ⟨w.heap.size, 0, none⟩) m m) zs wr ⟨_, m, by rw [hzl], fun q z hz => ⟨_, rfl, by rw [addz, hS.cl.cell (hzm q z hz).2, (hzm q z hz).1]⟩⟩ (by omega) (fun z hz => by
   obtain ⟨q, hq⟩ := List.mem_iff_getElem?.1 hz
   have h1 := (hzm q z hq).1
   have h2 := Wk.nm_le (blS bl) i q
   exact WalkArith.wf_i64 (by omega))
  have HX : Hid _ := And.intro hS (And.intro hCn hzs)
  clear hS hCn hzs hzl hzm
  gi_wp2
  refine ⟨trivial, (callsIn_wide.2 HX.out.2.1).mono ?_⟩
  rintro e w7 ⟨uc, rfl, hO, hb7⟩
  have hmf : Marks w.heap.size ds w7 := HX.out.1.mks.keep fun D _ hd _ => (hb7.block D (t_lt hd)).trans hd
  have hbl := HX.out.1.bl.trans (hb7.mono HX.out.1.bl.size)
  have HY : Hid _ := And.intro hO (And.intro hmf hbl)
  clear hO hmf hbl hb7
  gi_wp2
  refine marks_leave ds w7 HY.out.2.1 fun w' hbw hcw => ?_
  refine ⟨_, results_tmp rfl _ _ _, uc, rfl, ?_, HY.out.2.2.trans hbw⟩
  rw [<- HX.out.2.2]
  exact row_base (trow_at HY.out.1 fun b hb => by
   obtain ⟨c, hc⟩ := row_cells HY.out.1 hb
   exact (hcw _ _ _ hc).trans hc.symm) HX.out.1.bl.size
end
section
theorem meetS_iff {S T : Nat -> Bool} {N : Nat} : meetS S T N = true ↔ ∃ q, q < N /\ S q = true /\ T q = true := by
 unfold meetS
 rw [List.any_eq_true]
 constructor
 ·rintro ⟨q, hq, h⟩
  rw [Bool.and_eq_true] at h
  exact ⟨q, List.mem_range.1 hq, h.1, h.2⟩
 ·rintro ⟨q, hq, h1, h2⟩
  exact ⟨q, List.mem_range.2 hq, by rw [h1, h2]; rfl⟩
theorem withS_no {S T : Nat -> Bool} {N : Nat} (h : withS S T N = false) : ∃ q, q < N /\ S q = true /\ T q = false := by
 unfold withS at h
 rw [List.all_eq_false] at h
 obtain ⟨q, hq, h⟩ := h
 refine ⟨q, List.mem_range.1 hq, ?_⟩
 cases h1 : S q <;> cases h2 : T q <;> simp [h1, h2] at h ⊢
theorem withS_yes {S T : Nat -> Bool} {N : Nat} (h : withS S T N = true) {q : Nat} (hq : q < N) (h1 : S q = true) : T q = true := by
 unfold withS at h
 have h2 := List.all_eq_true.1 h q (List.mem_range.2 hq)
 rw [h1] at h2
 simpa using h2
namespace Wk
theorem nodup_leM : ∀ (n : Nat) (zs : List Nat), zs.Nodup -> (∀ z ∈ zs, z < n) -> zs.length <= n
 | 0, zs, _, h => by
   cases zs with
   | nil => simp
   | cons z r => have := h z (by simp); omega
 | n + 1, zs, hd, h => by
   have h1 := nodup_leM n (zs.erase n) (hd.erase _) (fun z hz => by
    have hz' := (hd.mem_erase_iff).1 hz
    have := h z hz'.2
    have hne := hz'.1
    omega)
   have h2 : zs.length <= (zs.erase n).length + 1 := by
    rw [List.length_erase]
    split <;> omega
   omega
abbrev St2 := List (Nat -> Bool) × List (Nat -> Bool)
def dec1 (b can : Nat -> Bool) : Prop := (∀ q, b q = true -> can q = true) \/ (∀ q, b q = true -> can q = false)
def Dec (bs : List (Nat -> Bool)) (can : Nat -> Bool) : Prop := ∀ b ∈ bs, dec1 b can
structure PI (m : Nat) (c : List Nat) (s : St2) : Prop where
 low : ∀ b ∈ s.1, ∀ q, b q = true -> q < m
 ex : ∀ q, q < m -> ∃ (i : Nat) (b : Nat -> Bool), s.1[i]? = some b /\ b q = true
 un : ∀ (i j : Nat) (b b' : Nat -> Bool) (q : Nat), s.1[i]? = some b -> s.1[j]? = some b' -> b q = true -> b' q = true -> i = j
 ne : ∀ b ∈ s.1, ∃ q, b q = true
 sat : ∀ b ∈ s.2, Sg.Sat m c fun q => b q = true
 inn : ∀ b ∈ s.1, b ∈ s.2
 cnt : s.2.length + 1 = 2 * s.1.length
theorem ent {bs : List (Nat -> Bool)} {can b x : Nat -> Bool} {i j : Nat} (hb : bs[i]? = some b) (h : (bs.set i (inP b can) ++ [outP b can])[j]? = some x) : (j = i /\ x = inP b can) \/ (j ≠ i /\ j < bs.length /\ bs[j]? = some x) \/ (j = bs.length /\ x = outP b can) := by
 have hi := (List.getElem?_eq_some_iff.1 hb).1
 rcases Nat.lt_or_ge j bs.length with hj | hj
 ·rw [List.getElem?_append_left (by rw [List.length_set]; exact hj)] at h
  by_cases e : j = i
  ·subst e
   rw [List.getElem?_set_self hj] at h
   exact .inl ⟨rfl, (Option.some.inj h).symm⟩
  ·rw [List.getElem?_set_ne (fun h => e h.symm)] at h
   exact .inr (.inl ⟨e, hj, h⟩)
 ·rw [List.getElem?_append_right (by rw [List.length_set]; exact hj), List.length_set] at h
  have : j - bs.length = 0 := by
   rcases Nat.eq_zero_or_pos (j - bs.length) with h0 | h0
   ·exact h0
   ·rw [List.getElem?_eq_none (by rw [List.length_singleton]; omega)] at h; cases h
  rw [this] at h
  exact .inr (.inr ⟨by omega, (Option.some.inj h).symm⟩)
theorem inP_iff {b can : Nat -> Bool} {q : Nat} : inP b can q = true ↔ b q = true /\ can q = true := by unfold inP; rw [Bool.and_eq_true]
theorem outP_iff {b can : Nat -> Bool} {q : Nat} : outP b can q = true ↔ b q = true /\ can q = false := by unfold outP; rw [Bool.and_eq_true, Bool.not_eq_true']
theorem PI.split {m N i : Nat} {c : List Nat} {s : St2} {can b : Nat -> Bool} (h : PI m c s) (hc : Sg.Sat m c fun q => can q = true) (hb : s.1[i]? = some b) (h1 : meetS b can N = true) (h2 : withS b can N = false) : PI m c (s.1.set i (inP b can) ++ [outP b can], s.2 ++ [inP b can, outP b can]) := by
 have hi := (List.getElem?_eq_some_iff.1 hb).1
 have hbm := List.mem_of_getElem? hb
 have mem : ∀ x ∈ s.1.set i (inP b can) ++ [outP b can], x ∈ s.1 \/ x = inP b can \/ x = outP b can := fun x hx => by
  rcases List.mem_append.1 hx with hx | hx
  ·rcases List.mem_or_eq_of_mem_set hx with hx | hx
   ·exact .inl hx
   ·exact .inr (.inl hx)
  ·exact .inr (.inr (List.mem_singleton.1 hx))
 refine ⟨fun x hx q hq => ?_, fun q hq => ?_, fun j j' x x' q hx hx' hq hq' => ?_, fun x hx => ?_, fun x hx => ?_, fun x hx => ?_, ?_⟩
 ·rcases mem x hx with hx | rfl | rfl
  ·exact h.low x hx q hq
  ·exact h.low b hbm q (inP_iff.1 hq).1
  ·exact h.low b hbm q (outP_iff.1 hq).1
 ·obtain ⟨j, x, hj, hx⟩ := h.ex q hq
  have hjl := (List.getElem?_eq_some_iff.1 hj).1
  by_cases e : j = i
  ·subst e
   rw [hb] at hj
   obtain rfl := Option.some.inj hj
   cases hcq : can q with
   | true => exact ⟨j, inP b can, by
      show (s.1.set j (inP b can) ++ [outP b can])[j]? = _
      rw [List.getElem?_append_left (by rw [List.length_set]; exact hi), List.getElem?_set_self hi], inP_iff.2 ⟨hx, hcq⟩⟩
   | false => exact ⟨s.1.length, outP b can, by
      show (s.1.set j (inP b can) ++ [outP b can])[s.1.length]? = _
      rw [List.getElem?_append_right (by rw [List.length_set]; exact Nat.le_refl _), List.length_set, Nat.sub_self]; rfl, outP_iff.2 ⟨hx, hcq⟩⟩
  ·exact ⟨j, x, by
    show (s.1.set i (inP b can) ++ [outP b can])[j]? = _
    rw [List.getElem?_append_left (by rw [List.length_set]; exact hjl), List.getElem?_set_ne (fun h => e h.symm)]; exact hj, hx⟩
 ·rcases ent hb hx with ⟨e, rfl⟩ | ⟨e, _, hj⟩ | ⟨e, rfl⟩ <;> rcases ent hb hx' with ⟨e', rfl⟩ | ⟨e', _, hj'⟩ | ⟨e', rfl⟩
  ·omega
  ·exact absurd (h.un i j' b x' q hb hj' (inP_iff.1 hq).1 hq') (by omega)
  ·have a1 := (inP_iff.1 hq).2
   have a2 := (outP_iff.1 hq').2
   rw [a1] at a2; cases a2
  ·exact absurd (h.un i j b x q hb hj (inP_iff.1 hq').1 hq) (by omega)
  ·exact h.un j j' x x' q hj hj' hq hq'
  ·exact absurd (h.un i j b x q hb hj (outP_iff.1 hq').1 hq) (by omega)
  ·have a1 := (outP_iff.1 hq).2
   have a2 := (inP_iff.1 hq').2
   rw [a1] at a2; cases a2
  ·exact absurd (h.un i j' b x' q hb hj' (outP_iff.1 hq).1 hq') (by omega)
  ·omega
 ·rcases mem x hx with hx | rfl | rfl
  ·exact h.ne x hx
  ·obtain ⟨q, _, a1, a2⟩ := meetS_iff.1 h1
   exact ⟨q, inP_iff.2 ⟨a1, a2⟩⟩
  ·obtain ⟨q, _, a1, a2⟩ := withS_no h2
   exact ⟨q, outP_iff.2 ⟨a1, a2⟩⟩
 ·have hbs := h.sat b (h.inn b hbm)
  rcases List.mem_append.1 hx with hx | hx
  ·exact h.sat x hx
  ·rcases List.mem_cons.1 hx with rfl | hx
   ·intro p q hp hq e hpx
    have a := inP_iff.1 hpx
    exact inP_iff.2 ⟨hbs p q hp hq e a.1, hc p q hp hq e a.2⟩
   ·obtain rfl := List.mem_singleton.1 hx
    intro p q hp hq e hpx
    have a := outP_iff.1 hpx
    refine outP_iff.2 ⟨hbs p q hp hq e a.1, ?_⟩
    cases hcq : can q with
    | false => rfl
    | true =>
      have h9 : can p = true := hc q p hq hp e.symm hcq
      rw [a.2] at h9; cases h9
 ·rcases mem x hx with hx | rfl | rfl
  ·exact List.mem_append_left _ (h.inn x hx)
  ·exact List.mem_append_right _ List.mem_cons_self
  ·exact List.mem_append_right _ (List.mem_cons_of_mem _ List.mem_cons_self)
 ·have := h.cnt
  simp
  omega
theorem sp1_all {m N i : Nat} {c : List Nat} {s : St2} {can : Nat -> Bool} (hN : m <= N) (h : PI m c s) (hc : Sg.Sat m c fun q => can q = true) : PI m c (sp1 N can s i) /\ (∀ X, Dec s.1 X -> Dec (sp1 N can s i).1 X) /\ (∃ l, (sp1 N can s i).2 = s.2 ++ l) /\ s.1.length <= (sp1 N can s i).1.length /\ ∀ j x, (sp1 N can s i).1[j]? = some x -> dec1 x can \/ (j ≠ i /\ j < s.1.length /\ s.1[j]? = some x) := by
 cases hb : s.1[i]? with
 | none =>
   have e : sp1 N can s i = s := by unfold sp1; rw [hb]
   rw [e]
   refine ⟨h, fun _ h => h, ⟨[], by simp⟩, Nat.le_refl _, fun j x hx => .inr ⟨fun e => ?_, (List.getElem?_eq_some_iff.1 hx).1, hx⟩⟩
   rw [e, hb] at hx; cases hx
 | some b =>
   have hbm := List.mem_of_getElem? hb
   by_cases h1 : meetS b can N = true
   ·by_cases h2 : withS b can N = true
    ·rw [sp1_no hb (.inr h2)]
     refine ⟨h, fun _ h => h, ⟨[], by simp⟩, Nat.le_refl _, fun j x hx => ?_⟩
     by_cases e : j = i
     ·subst e
      rw [hb] at hx
      obtain rfl := Option.some.inj hx
      exact .inl (.inl fun q hq => withS_yes h2 (by have := h.low b hbm q hq; omega) hq)
     ·exact .inr ⟨e, (List.getElem?_eq_some_iff.1 hx).1, hx⟩
    ·have h2' : withS b can N = false := by simpa using h2
     rw [sp1_yes hb h1 h2']
     refine ⟨h.split hc hb h1 h2', fun X hX x hx => ?_, ⟨_, rfl⟩, by simp, fun j x hx => ?_⟩
     ·have hbX := hX b hbm
      rcases List.mem_append.1 hx with hx | hx
      ·rcases List.mem_or_eq_of_mem_set hx with hx | rfl
       ·exact hX x hx
       ·exact hbX.imp (fun k q hq => k q (inP_iff.1 hq).1) (fun k q hq => k q (inP_iff.1 hq).1)
      ·obtain rfl := List.mem_singleton.1 hx
       exact hbX.imp (fun k q hq => k q (outP_iff.1 hq).1) (fun k q hq => k q (outP_iff.1 hq).1)
     ·rcases ent hb hx with ⟨_, rfl⟩ | h3 | ⟨_, rfl⟩
      ·exact .inl (.inl fun q hq => (inP_iff.1 hq).2)
      ·exact .inr h3
      ·exact .inl (.inr fun q hq => (outP_iff.1 hq).2)
   ·have h1' : meetS b can N = false := by simpa using h1
    rw [sp1_no hb (.inl h1')]
    refine ⟨h, fun _ h => h, ⟨[], by simp⟩, Nat.le_refl _, fun j x hx => ?_⟩
    by_cases e : j = i
    ·subst e
     rw [hb] at hx
     obtain rfl := Option.some.inj hx
     refine .inl (.inr fun q hq => ?_)
     cases hcq : can q with
     | false => rfl
     | true => exact absurd (meetS_iff.2 ⟨q, by have := h.low b hbm q hq; omega, hq, hcq⟩) h1
    ·exact .inr ⟨e, (List.getElem?_eq_some_iff.1 hx).1, hx⟩
theorem spI_all {m N : Nat} {c : List Nat} {s : St2} {can : Nat -> Bool} (hN : m <= N) (h : PI m c s) (hc : Sg.Sat m c fun q => can q = true) : ∀ i, PI m c (spI N can s i) /\ (∀ X, Dec s.1 X -> Dec (spI N can s i).1 X) /\ (∃ l, (spI N can s i).2 = s.2 ++ l) /\ s.1.length <= (spI N can s i).1.length /\ ∀ j x, (spI N can s i).1[j]? = some x -> dec1 x can \/ (i <= j /\ j < s.1.length)
 | 0 => ⟨h, fun _ h => h, ⟨[], by simp [spI]⟩, Nat.le_refl _, fun j x hx => .inr ⟨Nat.zero_le _, (List.getElem?_eq_some_iff.1 hx).1⟩⟩
 | i + 1 => by
   obtain ⟨a1, a2, ⟨l, a3⟩, a4, a5⟩ := spI_all hN h hc i
   obtain ⟨b1, b2, ⟨l2, b3⟩, b4, b5⟩ := sp1_all (i := i) hN a1 hc
   refine ⟨b1, fun X hX => b2 X (a2 X hX), ⟨l ++ l2, ?_⟩, Nat.le_trans a4 b4, fun j x hx => ?_⟩
   ·show (sp1 N can (spI N can s i) i).2 = _
    rw [b3, a3, List.append_assoc]
   ·rcases b5 j x hx with h1 | ⟨h1, _, h2⟩
    ·exact .inl h1
    ·rcases a5 j x h2 with h3 | ⟨h3, h4⟩
     ·exact .inl h3
     ·exact .inr ⟨by omega, h4⟩
theorem spI_done {m N : Nat} {c : List Nat} {s : St2} {can : Nat -> Bool} (hN : m <= N) (h : PI m c s) (hc : Sg.Sat m c fun q => can q = true) : PI m c (spI N can s s.1.length) /\ (∀ X, Dec s.1 X -> Dec (spI N can s s.1.length).1 X) /\ (∃ l, (spI N can s s.1.length).2 = s.2 ++ l) /\ Dec (spI N can s s.1.length).1 can := by
 obtain ⟨a1, a2, a3, _, a5⟩ := spI_all hN h hc s.1.length
 refine ⟨a1, a2, a3, fun b hb => ?_⟩
 obtain ⟨j, hj⟩ := List.mem_iff_getElem?.1 hb
 rcases a5 j b hj with h1 | ⟨h1, h2⟩
 ·exact h1
 ·omega
theorem nm_of {m : Nat} {c : List Nat} {s : St2} (h : PI m c s) {q i : Nat} {b : Nat -> Bool} (hb : s.1[i]? = some b) (hq : b q = true) : ∀ j, i < j -> nm s.1 j q = i
 | 0, hj => absurd hj (Nat.not_lt_zero _)
 | j + 1, hj => by
   show (if ((s.1[j]?).getD fun _ => false) q = true then j else nm s.1 j q) = i
   by_cases e : j = i
   ·subst e
    rw [hb]
    exact if_pos hq
   ·rw [if_neg, nm_of h hb hq j (by omega)]
    intro h2
    cases hx : s.1[j]? with
    | none => rw [hx] at h2; cases h2
    | some x =>
      rw [hx] at h2
      exact e (h.un j i x b q hx hb h2 hq)
open Classical in
theorem PI.few {m : Nat} {c : List Nat} {s : St2} (h : PI m c s) : s.1.length <= m /\ (m <= s.1.length -> ∀ (i : Nat) (b : Nat -> Bool) (p q : Nat), s.1[i]? = some b -> b p = true -> b q = true -> p = q) := by
 have hrep : ∃ rep : Nat -> Nat, ∀ (i : Nat) (b : Nat -> Bool), s.1[i]? = some b -> b (rep i) = true := by
  refine ⟨fun i => if hi : ∃ (b : Nat -> Bool) (q : Nat), s.1[i]? = some b /\ b q = true then hi.choose_spec.choose else 0, fun i b hb => ?_⟩
  obtain ⟨q, hq⟩ := h.ne b (List.mem_of_getElem? hb)
  have hi : ∃ (b : Nat -> Bool) (q : Nat), s.1[i]? = some b /\ b q = true := ⟨b, q, hb, hq⟩
  have h1 := hi.choose_spec.choose_spec
  show b (if hi : _ then _ else 0) = true
  rw [dif_pos hi]
  have h2 : b = hi.choose := Option.some.inj (hb.symm.trans h1.1)
  have h3 : ∀ z q, b = z -> z q = true -> b q = true := fun z q e h => by rw [e]; exact h
  exact h3 _ _ h2 h1.2
 obtain ⟨rep, hrep⟩ := hrep
 have hnd : ((List.range s.1.length).map rep).Nodup := by
  refine List.pairwise_map.2 (List.nodup_range.imp_of_mem ?_)
  intro i j hi hj hne e
  have hi := List.mem_range.1 hi
  have hj := List.mem_range.1 hj
  have a1 := hrep i _ (List.getElem?_eq_getElem hi)
  have a2 := hrep j _ (List.getElem?_eq_getElem hj)
  rw [<- e] at a2
  exact hne (h.un i j _ _ _ (List.getElem?_eq_getElem hi) (List.getElem?_eq_getElem hj) a1 a2)
 have hlt : ∀ z ∈ (List.range s.1.length).map rep, z < m := fun z hz => by
  obtain ⟨i, hi, rfl⟩ := List.mem_map.1 hz
  have hi := List.mem_range.1 hi
  exact h.low _ (List.getElem_mem hi) _ (hrep i _ (List.getElem?_eq_getElem hi))
 have le := Wk.nodup_leM m _ hnd hlt
 rw [List.length_map, List.length_range] at le
 refine ⟨le, fun hm i b p q hb hp hq => ?_⟩
 have key : ∀ p, b p = true -> p = rep i := fun p hp => by
  rcases Nat.decEq p (rep i) with e | e
  ·have h1 := Wk.nodup_leM m (p :: (List.range s.1.length).map rep) (List.nodup_cons.2 ⟨fun hx => by
    obtain ⟨j, hj, hj2⟩ := List.mem_map.1 hx
    have hj := List.mem_range.1 hj
    have a2 := hrep j _ (List.getElem?_eq_getElem hj)
    rw [hj2] at a2
    have e2 := h.un j i _ _ _ (List.getElem?_eq_getElem hj) hb a2 hp
    subst e2
    exact e hj2.symm, hnd⟩) (fun z hz => by
    rcases List.mem_cons.1 hz with rfl | hz
    ·exact h.low b (List.mem_of_getElem? hb) z hp
    ·exact hlt z hz)
   rw [List.length_cons, List.length_map, List.length_range] at h1
   omega
  ·exact e
 rw [key p hp, key q hq]
theorem PI.last {m k d R : Nat} {out : Nat -> List Ro.St} {s : St2} {T : Nat -> Nat -> Nat -> Bool} (hm : m <= 1000) (hd : m <= 64 * d) (hf : Sg.Fits m out) (h : PI m (Ro.rnd m out R) s)
 (ho : ∀ p, p < m -> ∀ (b : Int) (X : Nat -> Prop), Sg.into out X b p ↔ ∃ a q : Nat, b = (a : Int) /\ a < k /\ q < m /\ T a p q = true /\ X q)
 (hs : m <= s.1.length \/ ∀ S ∈ s.2, ∀ a, a < k -> Dec s.1 (intoS (T a) S d m)) : Ro.num ((List.range m).map (nm s.1 s.1.length)) = Ro.rnd m out R := by
 have at_ : ∀ q, q < m -> ∃ b, s.1[nm s.1 s.1.length q]? = some b /\ b q = true := fun q hq => by
  obtain ⟨i, b, hb, hbq⟩ := h.ex q hq
  have := nm_of h hb hbq s.1.length (List.getElem?_eq_some_iff.1 hb).1
  rw [this]
  exact ⟨b, hb, hbq⟩
 refine Sg.blocks_last hm hf ?_ ?_
 ·intro p q hp hq e b B hin
  rcases hs with hs | hs
  ·obtain ⟨x, hx, hxp⟩ := at_ p hp
   obtain ⟨y, hy, hyq⟩ := at_ q hq
   rw [<- e, hx] at hy
   obtain rfl := Option.some.inj hy
   rw [<- h.few.2 hs _ x p q hx hxp hyq]
   exact hin
  ·obtain ⟨a, t, rfl, ha, ht, hT, hB⟩ := (ho p hp b _).1 hin
   obtain ⟨x, hx, hxp⟩ := at_ p hp
   obtain ⟨y, hy, hyq⟩ := at_ q hq
   rw [<- e, hx] at hy
   obtain rfl := Option.some.inj hy
   obtain ⟨z, hz, hzt⟩ := at_ t ht
   have hD := hs z (h.inn z (List.mem_of_getElem? hz)) a ha x (List.mem_of_getElem? hx)
   have hcp : intoS (T a) z d m p = true := by
    unfold intoS
    rw [Bool.and_eq_true]
    exact ⟨by simpa using hp, meetS_iff.2 ⟨t, by omega, hT, hzt⟩⟩
   rcases hD with hD | hD
   ·have hcq := hD q hyq
    unfold intoS at hcq
    rw [Bool.and_eq_true] at hcq
    obtain ⟨t2, _, h2, h3⟩ := meetS_iff.1 hcq.2
    have ht2 := h.low z (List.mem_of_getElem? hz) t2 h3
    refine (ho q hq _ _).2 ⟨a, t2, rfl, ha, ht2, h2, ?_⟩
    show nm s.1 s.1.length t2 = B
    rw [nm_of h hz h3 s.1.length (List.getElem?_eq_some_iff.1 hz).1]
    exact hB
   ·have := hD p hxp
    rw [hcp] at this; cases this
 ·intro p q hp hq e
  obtain ⟨x, hx, hxp⟩ := at_ p hp
  have h1 := h.sat x (h.inn x (List.mem_of_getElem? hx)) p q hp hq e hxp
  exact (nm_of h hx h1 s.1.length (List.getElem?_eq_some_iff.1 hx).1).symm
theorem into_sat {m k d R : Nat} {out : Nat -> List Ro.St} {T : Nat -> Nat -> Nat -> Bool} (hm : m <= 1000) (hd : m <= 64 * d) (hf : Sg.Fits m out) (hR : Ro.Last m out R) (hT : ∀ a p q, a < k -> p < m -> T a p q = true -> q < m)
 (ho : ∀ p, p < m -> ∀ (b : Int) (X : Nat -> Prop), Sg.into out X b p ↔ ∃ a q : Nat, b = (a : Int) /\ a < k /\ q < m /\ T a p q = true /\ X q) {S : Nat -> Bool} (hS : Sg.Sat m (Ro.rnd m out R) fun q => S q = true) {a : Nat} (ha : a < k) : Sg.Sat m (Ro.rnd m out R) fun q => intoS (T a) S d m q = true := by
 have key : ∀ p, p < m -> (intoS (T a) S d m p = true ↔ Sg.into out (fun q => S q = true) (a : Int) p) := fun p hp => by
  unfold intoS
  rw [Bool.and_eq_true, ho p hp]
  constructor
  ·rintro ⟨_, h⟩
   obtain ⟨q, _, h1, h2⟩ := meetS_iff.1 h
   exact ⟨a, q, rfl, ha, hT a p q ha hp h1, h1, h2⟩
  ·rintro ⟨a', q, e, _, hq, h1, h2⟩
   obtain rfl : a = a' := by omega
   exact ⟨by simpa using hp, meetS_iff.2 ⟨q, by omega, h1, h2⟩⟩
 intro p q hp hq e hpx
 exact (key q hq).2 (Sg.last_into hm hf hR hS (a : Int) p q hp hq e ((key p hp).1 hpx))
end Wk
end
section
open Go.RowKit Go.Maps
attribute [local go_sem ↓] Go.wp_at_zero Go.wp_at_succ
theorem own_one {w : World} {B g : Nat} {e : TypeId} {v : Value} (hB : B <= g) (h : w.heap[g]? = some (.cells #[v] e (0, 0))) : w.ownsRow B e 1 (.slice (some ⟨g, 0, none⟩) 1 1) 1 [v] := ⟨rfl, .inr ⟨g, 1, #[v], rfl, hB, h, by omega, by unfold maxLen; omega, rfl, rfl⟩⟩
theorem ptg_new {w : World} {B ga d : Nat} {S : Nat -> Bool} (hB : B <= w.heap.size) (hR : RowAt w ga 0 d S) : Ptg (((w.alloc (.cells #[rowV ga 0 d d] 82)).alloc (.cells #[rowV ga 0 d d] 82)).alloc (.cells #[.slice (some ⟨w.heap.size, 0, none⟩) 1 1, .slice (some ⟨w.heap.size + 1, 0, none⟩) 1 1] 177)) B (w.heap.size + 2) d (.slice (some ⟨w.heap.size, 0, none⟩) 1 1) (.slice (some ⟨w.heap.size + 1, 0, none⟩) 1 1) [(ga, d, S)] [(ga, d, S)] := by
 obtain ⟨w1, hw1⟩ : ∃ w1, w1 = w.alloc (.cells #[rowV ga 0 d d] 82) := ⟨_, rfl⟩
 rw [<- hw1]
 obtain ⟨w2, hw2⟩ : ∃ w2, w2 = w1.alloc (.cells #[rowV ga 0 d d] 82) := ⟨_, rfl⟩
 rw [<- hw2]
 obtain ⟨w3, hw3⟩ : ∃ w3, w3 = w2.alloc (.cells #[.slice (some ⟨w.heap.size, 0, none⟩) 1 1, .slice (some ⟨w.heap.size + 1, 0, none⟩) 1 1] 177) := ⟨_, rfl⟩
 rw [<- hw3]
 have s1 : w1.heap.size = w.heap.size + 1 := by rw [hw1, World.size_alloc]
 have s2 : w2.heap.size = w.heap.size + 2 := by rw [hw2, World.size_alloc, s1]
 have b1 : Below w.heap.size w w1 := by rw [hw1]; exact (Below.refl _ _).alloc (Nat.le_refl _) _
 have b2 : Below w1.heap.size w1 w2 := by rw [hw2]; exact (Below.refl _ _).alloc (Nat.le_refl _) _
 have b3 : Below w2.heap.size w2 w3 := by rw [hw3]; exact (Below.refl _ _).alloc (Nat.le_refl _) _
 have g1 : w3.heap[w.heap.size]? = some (.cells #[rowV ga 0 d d] 82 (0, 0)) := (b3.block _ (by omega)).trans ((b2.block _ (by omega)).trans (by rw [hw1]; exact heap_alloc_new w _))
 have g2 : w3.heap[w.heap.size + 1]? = some (.cells #[rowV ga 0 d d] 82 (0, 0)) := (b3.block _ (by omega)).trans (by rw [<- s1, hw2]; exact heap_alloc_new w1 _)
 have g3 : w3.heap[w.heap.size + 2]? = some (.cells #[.slice (some ⟨w.heap.size, 0, none⟩) 1 1, .slice (some ⟨w.heap.size + 1, 0, none⟩) 1 1] 177 (0, 0)) := by rw [<- s2, hw3]; exact heap_alloc_new w2 _
 have hR3 := ((hR.below b1).below b2).below b3
 refine ⟨by omega, g3, own_one hB g1, own_one (by omega) g2, fun k e1 e2 => ?_, fun r hr => ?_, fun r hr => ?_⟩
 ·simp only [Value.ownBlock, Option.some.injEq] at e1 e2
  omega
 ·obtain rfl := List.mem_singleton.1 hr
  exact hR3
 ·obtain rfl := List.mem_singleton.1 hr
  exact hR3
theorem Ptg.set {w : World} {B gp d i : Nat} {u v : Value} {bl st : List Bl} {r : Bl} (h : Ptg w B gp d u v bl st) (hi : st[i]? = some r) : ∃ g c, v = .slice (some ⟨g, 0, none⟩) st.length c /\ w.cell? ⟨g, i, none⟩ = some (blV d r) := by
 obtain ⟨g, c, e, _⟩ := h.os.form (by have := (List.getElem?_eq_some_iff.1 hi).1; omega)
 have ho := h.os
 rw [e] at ho
 exact ⟨g, c, e, by rw [World.ownsRow.cellAt ho i (by have := (List.getElem?_eq_some_iff.1 hi).1; omega)]; exact blC_at hi⟩
theorem blS_get {l : List Bl} {j : Nat} {S : Nat -> Bool} (h : (blS l)[j]? = some S) : ∃ r, l[j]? = some r /\ r.2.2 = S := by
 unfold blS at h
 rw [List.getElem?_map] at h
 cases hl : l[j]? with
 | none => rw [hl] at h; cases h
 | some r => rw [hl] at h; exact ⟨r, rfl, Option.some.inj h⟩
theorem wk_pi0 {m : Nat} (c : List Nat) (h0 : 0 < m) : Wk.PI m c ([fun q => decide (q < m)], [fun q => decide (q < m)]) := by
 refine ⟨fun b hb q hq => ?_, fun q hq => ⟨0, _, rfl, by simpa using hq⟩, fun i j b b' q hi hj _ _ => ?_, fun b hb => ?_, fun b hb => ?_, fun b hb => hb, rfl⟩
 ·obtain rfl := List.mem_singleton.1 hb
  simpa using hq
 ·have := (List.getElem?_eq_some_iff.1 hi).1
  have := (List.getElem?_eq_some_iff.1 hj).1
  simp only [List.length_singleton] at *
  omega
 ·obtain rfl := List.mem_singleton.1 hb
  exact ⟨0, by simpa using h0⟩
 ·obtain rfl := List.mem_singleton.1 hb
  intro p q hp hq _ _
  simpa using hq
set_option linter.unusedSimpArgs false in
set_option maxRecDepth 100000 in
set_option maxHeartbeats 16000000 in
theorem pclasses_any (w : World) (B0 gt kk m d R : Nat) (ge gw : Nat -> Nat) (T : Nat -> Nat -> Nat -> Bool) (out : Nat -> List Ro.St) (hT : Tbl w B0 gt kk m d ge gw T) (hTb : TabW w) (hd : d = Br.wds m) (h0 : 0 < m) (hm : m <= 300) (hkk : kk <= 201) (hb : ∀ a p q, a < kk -> p < m -> T a p q = true -> q < m) (hf : Sg.Fits m out) (hR : Ro.Last m out R)
 (ho : ∀ p, p < m -> ∀ (b : Int) (X : Nat -> Prop), Sg.into out X b p ↔ ∃ a q : Nat, b = (a : Int) /\ a < kk /\ q < m /\ T a p q = true /\ X q) :
 Calls Tryz.prog 88 #[.slice (some ⟨gt, 0, none⟩) kk kk, .int .i64 m] w fun r w' => ∃ uc, r = .returned uc /\ OwnI w' w.heap.size uc (natI (Ro.rnd m out R)) /\ Below w.heap.size w w' := by
 have hdd : 0 < d /\ d <= 10000 /\ m <= 64 * d := by rw [hd]; unfold Br.wds; omega
 have hNw := newRow_any m (by omega) w
 rw [<- hd] at hNw
 have hSat := fun (S : Nat -> Bool) (hS : Sg.Sat m (Ro.rnd m out R) fun q => S q = true) (a : Nat) (ha : a < kk) => Wk.into_sat (T := T) (d := d) (by omega) hdd.2.2 hf hR hb ho hS ha
 have hLast := fun (s : Wk.St2) (h : Wk.PI m (Ro.rnd m out R) s) hs => Wk.PI.last (T := T) (d := d) (k := kk) (by omega) hdd.2.2 hf h ho hs
 obtain ⟨c, hc⟩ : ∃ c, c = Ro.rnd m out R := ⟨_, rfl⟩
 rw [<- hc] at hSat hLast ⊢
 have H0 : Hid _ := And.intro hT (And.intro hTb (And.intro hd (And.intro hdd (And.intro hSat (And.intro hLast hNw)))))
 clear hT hTb hd hdd hNw hSat hLast hf hR ho hc
 go_enter Tryz.func88, Tryz.ntmps88
 go_wp2_with fail
 refine Calls.mono H0.out.2.2.2.2.2.2 ?_
 rintro r w1 ⟨rfl, hw1⟩
 have hb1 : Below w.heap.size w w1 := by rw [hw1]; exact (Below.refl _ _).alloc (Nat.le_refl _) _
 have hR1 : RowAt w1 w.heap.size 0 d (fun q => decide (q < 0)) := by
  rw [hw1]
  exact (rowAt_new w d d 0 (by omega)).congr fun q _ => by simp
 have H1 : Hid _ := And.intro hb1 hR1
 clear hw1 hb1 hR1
 unfold rowV
 go_wp2_with fail
 go_loopg [14] m (fun q iv wr => ∃ i : Nat, q = m - i /\ i <= m /\ iv = .int .i64 i /\ RowAt wr w.heap.size 0 d (fun q => decide (q < i)) /\ Kept (fun b => b = w.heap.size) w1 wr)
 case atStart => exact ⟨0, rfl, Nat.zero_le _, rfl, H1.out.2, Kept.refl _ _⟩
 case round =>
  obtain ⟨i, rfl, hi, rfl, hRi, hK⟩ := hrel
  by_cases hlt : i < m
  ·have q0 : (0 : Int) <= (i : Int) := by omega
   have q1 : (i : Int) < (m : Int) := by omega
   have hAd := addRow_any w.heap.size 0 d d i (fun q => decide (q < i)) wr H0.out.2.2.2.1.2.1 (by rw [H0.out.2.2.1]; exact lt_wds hlt) hRi
   have HM : Hid _ := And.intro hAd (And.intro hRi hK)
   clear hAd hRi hK
   unfold rowV at HM
   go_wp2_with fail
   refine Calls.mono HM.out.1 ?_
   rintro r w5 ⟨⟨v, rfl⟩, hR5, hW5⟩
   have H5 : Hid _ := And.intro (hR5.congr (T := fun q => decide (q < i + 1)) fun q _ => by
    by_cases e : q = i
    ·subst e; simp
    ·have : decide (q < i + 1) = decide (q < i) := by simp only [decide_eq_decide]; omega
     rw [this]; simp [e]) (HM.out.2.2.trans hW5.kp)
   clear hR5 hW5
   go_wp2_with fail
   go_roundg (m - (i + 1))
   case measure => omega
   case rel => exact ⟨i + 1, rfl, by omega, by go_num, H5.out.1, H5.out.2⟩
  ·obtain rfl : m = i := by omega
   have h1 : ¬ (m : Int) < (m : Int) := by omega
   have hb2 : Below w.heap.size w wr := H1.out.1.trans (hK.below H1.out.1.size fun k hk => by omega)
   obtain ⟨w2, hw2⟩ : ∃ w2, w2 = wr := ⟨_, rfl⟩
   have HP : Hid _ := And.intro hRi hb2
   clear hRi hK hb2
   go_upto_region 8 with fail
   rw [<- hw2]
   rw [<- hw2] at HP
   clear hw2
   obtain ⟨w3, hw3⟩ : ∃ w3, w3 = ((w2.alloc (.cells #[.slice (some ⟨w.heap.size, 0, none⟩) d d] 82)).alloc (.cells #[.slice (some ⟨w.heap.size, 0, none⟩) d d] 82)).alloc (.cells #[.slice (some ⟨w2.heap.size, 0, none⟩) 1 1, .slice (some ⟨w2.heap.size + 1, 0, none⟩) 1 1] 177) := ⟨_, rfl⟩
   rw [<- hw3]
   have hP3 : Ptg w3 w.heap.size (w2.heap.size + 2) d (.slice (some ⟨w2.heap.size, 0, none⟩) 1 1) (.slice (some ⟨w2.heap.size + 1, 0, none⟩) 1 1) [(w.heap.size, d, fun q => decide (q < m))] [(w.heap.size, d, fun q => decide (q < m))] := by rw [hw3]; exact ptg_new HP.out.2.size HP.out.1
   have hb3 : Below w.heap.size w w3 := by rw [hw3]; exact HP.out.2.trans ((((Below.refl _ _).alloc (Nat.le_refl _) _).alloc (by simp) _).alloc (by simp; omega) _ |>.mono HP.out.2.size)
   obtain ⟨gp, hgp⟩ : ∃ gp, gp = w2.heap.size + 2 := ⟨_, rfl⟩
   rw [<- hgp] at hP3 ⊢
   have H3 : Hid _ := And.intro hP3 hb3
   clear hw3 hP3 hb3 HP hgp
   go_wp2_with fail
   go_loopg [8] (2 * m) (fun q tv wr => ∃ (t : Nat) (u v : Value) (bl st : List Bl), q = 2 * m - t /\ t <= 2 * m /\ tv = .int .i64 t /\ Ptg wr w.heap.size gp d u v bl st /\ Wk.PI m c (blS bl, blS st) /\ (∀ j S, j < t -> (blS st)[j]? = some S -> ∀ a, a < kk -> Wk.Dec (blS bl) (intoS (T a) S d m)) /\ PtF w.heap.size w3 wr)
   case atStart => exact ⟨0, _, _, _, _, rfl, by omega, rfl, H3.out.1, wk_pi0 c h0, fun j S hj => by omega, PtF.refl _ _⟩
   case round =>
    obtain ⟨wo, rfl⟩ : ∃ wo, wo = wr := ⟨_, rfl⟩
    obtain ⟨t, u, v, bl, st, rfl, ht, rfl, hP, hI, hD, hF⟩ := hrel
    have hfew := hI.few
    have hcnt := hI.cnt
    simp only [blS_len] at hfew hcnt
    obtain ⟨gu, cu, rfl, _, _⟩ := hP.ob.form (by omega)
    obtain ⟨gv, cv, rfl, _, _⟩ := hP.os.form (by omega)
    obtain ⟨NB, hNB⟩ : ∃ NB, NB = bl.length := ⟨_, rfl⟩
    obtain ⟨NS, hNS⟩ : ∃ NS, NS = st.length := ⟨_, rfl⟩
    obtain ⟨y0, y1, _, _⟩ := ptg_cells hP
    rw [<- hNB] at y0
    rw [<- hNS] at y1
    have HN : Hid (NB = bl.length /\ NS = st.length /\ NB <= m /\ NS + 1 = 2 * NB) := ⟨hNB, hNS, by omega, by omega⟩
    have HP : Hid _ := And.intro hP (And.intro hI (And.intro hD hF))
    clear hP hI hD hF hfew hcnt hNB hNS
    by_cases hgo : t < NS /\ NB < m
    ·have e1 : decide ((t : Int) < (NS : Int)) = true := decide_eq_true (by omega)
     have e2 : decide ((NB : Int) < (m : Int)) = true := decide_eq_true (by omega)
     have e3 : (t : Int) < (NS : Int) := by omega
     have e4 : (NB : Int) < (m : Int) := by omega
     obtain ⟨r0, hr0⟩ : ∃ r, st[t]? = some r := ⟨_, List.getElem?_eq_getElem (by have := HN.out.2.1; omega)⟩
     have hS0 := blS_at hr0
     have HG : Hid _ := And.intro hS0 (And.intro hgo.1 hgo.2)
     clear hS0 hr0 hgo
     go_wp2_with fail
     clear y0 y1 e1 e2 e3 e4
     go_loopg [47] kk (fun q av wq => ∃ (a : Nat) (u v : Value) (bl' st' : List Bl), q = kk - a /\ a <= kk /\ av = .int .i64 a /\ Ptg wq w.heap.size gp d u v bl' st' /\ Wk.PI m c (blS bl', blS st') /\ (∀ X, Wk.Dec (blS bl) X -> Wk.Dec (blS bl') X) /\ (∃ l, blS st' = blS st ++ l) /\ (∀ a', a' < a -> Wk.Dec (blS bl') (intoS (T a') r0.2.2 d m)) /\ PtF w.heap.size w3 wq)
     case atStart => exact ⟨0, _, _, _, _, rfl, Nat.zero_le _, rfl, HP.out.1, HP.out.2.1, fun _ h => h, ⟨[], by simp⟩, fun a' h => by omega, HP.out.2.2.2⟩
     case round =>
      obtain ⟨wi, rfl⟩ : ∃ wi, wi = wr := ⟨_, rfl⟩
      obtain ⟨a, u, v, bl', st', rfl, ha, rfl, hP', hI', hD', ⟨l, hl⟩, hA', hF'⟩ := hrel
      by_cases hla : a < kk
      ·have q0 : (0 : Int) <= (a : Int) := by omega
       have q1 : (a : Int) < (kk : Int) := by omega
       have hst' : ∃ r, st'[t]? = some r /\ r.2.2 = r0.2.2 := by
        refine blS_get ?_
        rw [hl, List.getElem?_append_left (by have := (List.getElem?_eq_some_iff.1 HG.out.1).1; exact this)]
        exact HG.out.1
       obtain ⟨r1, hr1, hr2⟩ := hst'
       obtain ⟨gv', cv', rfl, z2⟩ := hP'.set hr1
       have z1 := (ptg_cells hP').2.1
       obtain ⟨NT, hNT⟩ : ∃ NT, NT = st'.length := ⟨_, rfl⟩
       have q2 : (t : Int) < (NT : Int) := by have := (List.getElem?_eq_some_iff.1 hr1).1; omega
       have q3 : (0 : Int) <= (t : Int) := by omega
       rw [<- hNT] at z1
       have hTi := H0.out.1.below (H3.out.2.trans hF'.bl)
       have c0 := hTi.lst.cell hla
       have hRs := hP'.rs r1 (List.mem_of_getElem? hr1)
       have hIn := into_any (gw a) (ge a) m d r1.1 0 r1.2.1 B0 (T a) r1.2.2 wi H0.out.2.2.1 hm (hTi.rows a hla) hRs
       have hcn := H0.out.2.2.2.2.1 r0.2.2 (hI'.sat r0.2.2 (by rw [<- hr2]; exact List.mem_of_getElem? (blS_at hr1))) a hla
       have hfew := hI'.few.1
       have hcnt := hI'.cnt
       simp only [blS_len] at hfew hcnt
       have hdone := Wk.spI_done H0.out.2.2.2.1.2.2 hI' hcn
       rw [hr2] at hIn
       have hLl : ∃ l, blS st' = blS st ++ l := ⟨l, hl⟩
       have HQ : Hid _ := And.intro hP' (And.intro hIn (And.intro hdone (And.intro hD' (And.intro hLl (And.intro hA' (And.intro hF' (And.intro hfew hcnt)))))))
       clear hP' hI' hD' hl hLl hA' hF' hTi hRs hIn hcn hdone hNT hr1 hr2 hfew hcnt
       unfold blV rowV at z2
       unfold rowV at HQ
       go_wp2_with (first
        | (go_at_call 132; refine Calls.mono HQ.out.2.1 ?_; rintro r5 w6 ⟨gc, rfl, hRc, hgc, hb6⟩; have hSp := wsplit_any w6 w.heap.size gp d gc d (intoS (T a) r0.2.2 d m) _ _ bl' st' H0.out.2.2.2.1.1 H0.out.2.2.2.1.2.1 (by have := H3.out.2.size; have := HQ.out.2.2.2.2.2.2.1.bl.size; have := hb6.size; omega) (HQ.out.1.below hb6) hRc (by have := HQ.out.2.2.2.2.2.2.2; omega) (by have := HQ.out.2.2.2.2.2.2.2; omega) (by have := HQ.out.2.2.2.2.2.2.2; omega); have H6 : Hid _ := And.intro hSp hb6; clear hSp hb6 hRc; unfold rowV at H6)
        | (go_at_call 131; refine Calls.mono H6.out.1 ?_; rintro r7 w7 ⟨⟨x7, rfl⟩, ⟨u7, v7, bl7, st7, hP7, hE7⟩, hF7⟩; have H7 : Hid _ := And.intro hP7 (And.intro hE7 hF7); clear hP7 hE7 hF7))
       have hE := H7.out.2.1
       have e7 : blS bl7 = (Wk.spI (64 * d) (intoS (T a) r0.2.2 d m) (blS bl', blS st') (blS bl').length).1 := by rw [blS_len, <- hE]
       have e8 : blS st7 = (Wk.spI (64 * d) (intoS (T a) r0.2.2 d m) (blS bl', blS st') (blS bl').length).2 := by rw [blS_len, <- hE]
       have hF67 : PtF w.heap.size wi w7 := (PtF.of_below (by have := H3.out.2.size; have := HQ.out.2.2.2.2.2.2.1.bl.size; omega) H6.out.2).trans H7.out.2.2
       have HR : Hid _ := And.intro e7 (And.intro e8 hF67)
       clear hE e7 e8 hF67
       go_roundg (kk - (a + 1))
       case measure => omega
       case rel =>
        obtain ⟨a1, a2, ⟨l2, a3⟩, a4⟩ := HQ.out.2.2.1
        obtain ⟨l, hl⟩ := HQ.out.2.2.2.2.1
        refine ⟨a + 1, _, _, bl7, st7, rfl, by omega, by go_num, H7.out.1, ?_, fun X hX => ?_, ⟨l ++ l2, ?_⟩, fun a' h => ?_, HQ.out.2.2.2.2.2.2.1.trans HR.out.2.2⟩
        ·rw [HR.out.1, HR.out.2.1]; exact a1
        ·rw [HR.out.1]; exact a2 X (HQ.out.2.2.2.1 X hX)
        ·rw [HR.out.2.1]
         rw [<- List.append_assoc, <- hl]
         exact a3
        ·rw [HR.out.1]
         by_cases e : a' = a
         ·subst e; exact a4
         ·exact a2 _ (HQ.out.2.2.2.2.2.1 a' (by omega))
      ·obtain rfl : kk = a := by omega
       have h1 : ¬ (kk : Int) < (kk : Int) := by omega
       have hLl : ∃ l, blS st' = blS st ++ l := ⟨l, hl⟩
       have HX : Hid _ := And.intro hP' (And.intro hI' (And.intro hD' (And.intro hLl (And.intro hA' hF'))))
       clear hP' hI' hD' hl hLl hA' hF'
       go_wp2_with fail
       go_roundg (2 * m - (t + 1))
       case measure => have := HG.out.2; have := HN.out; omega
       case rel =>
        obtain ⟨l, hl⟩ := HX.out.2.2.2.1
        have hlt := (List.getElem?_eq_some_iff.1 HG.out.1).1
        refine ⟨t + 1, _, _, bl', st', rfl, by have := HG.out.2; have := HN.out; omega, by go_num, HX.out.1, HX.out.2.1, fun j S hj hS a ha => ?_, HX.out.2.2.2.2.2⟩
        rw [hl, List.getElem?_append_left (by omega)] at hS
        by_cases e : j = t
        ·subst e
         rw [HG.out.1] at hS
         obtain rfl := Option.some.inj hS
         exact HX.out.2.2.2.2.1 a ha
        ·exact HX.out.2.2.1 _ (HP.out.2.2.1 j S (by omega) hS a ha)
    ·have hNb := wnumb_any wo w.heap.size gp d m _ _ bl st HP.out.1 (H0.out.2.1.below H0.out.2.1.lt (H3.out.2.trans HP.out.2.2.2.bl)) hm H0.out.2.2.1 (fun r hr q hq => HP.out.2.1.low r.2.2 (List.mem_map.2 ⟨r, hr, rfl⟩) q hq) (by have := HN.out; omega) (by have := HN.out; omega)
     have hla := H0.out.2.2.2.2.2.1 (blS bl, blS st) HP.out.2.1 (by
      rcases Nat.lt_or_ge NB m with h | h
      ·refine .inr fun S hS a ha => ?_
       obtain ⟨j, hj⟩ := List.mem_iff_getElem?.1 hS
       have hjl := (List.getElem?_eq_some_iff.1 hj).1
       exact HP.out.2.2.1 j S (by have := HN.out.2.1; have h9 : j < (blS st).length := hjl; rw [blS_len] at h9; omega) hj a ha
      ·exact .inl (by show m <= (blS bl).length; rw [blS_len]; have := HN.out.1; omega))
     have hcan : Sy.canon ((List.range m).map fun q => (Wk.nm (blS bl) bl.length q : Int)) = c := by
      have h1 : ((List.range m).map fun q => (Wk.nm (blS bl) bl.length q : Int)) = ((List.range m).map (Wk.nm (blS bl) (blS bl).length)).map fun e : Nat => (e : Int) := by rw [List.map_map, blS_len]; rfl
      rw [h1, Sg.canon_nat]
      exact hla
     rw [hcan] at hNb
     have HE : Hid _ := hNb
     clear hNb hla hcan
     by_cases ht2 : t < NS
     ·have e1 : decide ((t : Int) < (NS : Int)) = true := decide_eq_true (by omega)
      have e2 : decide ((NB : Int) < (m : Int)) = false := decide_eq_false (by omega)
      have e3 : (t : Int) < (NS : Int) := by omega
      have e4 : ¬ (NB : Int) < (m : Int) := by omega
      go_wp2_with (go_at_call 133; refine Calls.mono HE.out ?_; rintro r9 w9 ⟨uc, rfl, hO9, hb9⟩; have H9 : Hid _ := And.intro hO9 hb9; clear hO9 hb9)
      go_ret
      have hle := H3.out.2.trans HP.out.2.2.2.bl
      exact ⟨uc, rfl, row_base H9.out.1 hle.size, hle.trans (H9.out.2.mono hle.size)⟩
     ·have e1 : decide ((t : Int) < (NS : Int)) = false := decide_eq_false (by omega)
      have e3 : ¬ (t : Int) < (NS : Int) := by omega
      go_wp2_with (go_at_call 133; refine Calls.mono HE.out ?_; rintro r9 w9 ⟨uc, rfl, hO9, hb9⟩; have H9 : Hid _ := And.intro hO9 hb9; clear hO9 hb9)
      go_ret
      have hle := H3.out.2.trans HP.out.2.2.2.bl
      exact ⟨uc, rfl, row_base H9.out.1 hle.size, hle.trans (H9.out.2.mono hle.size)⟩
end
end Go.Proofs.YthcpliinddjkhaaGreatDoor
