/- Texts of this claim, joined: SgUpd, SgApp, SgAdd, SgInv, SgSplit, SgDel, SgLift0. -/
import Derived.Test.YtgehimdkdeldaabGreatDoorPart8
import Derived.Deep.RegionHeld3
import Derived.Test.YtgehimdkdeldaabGreatDoorPart0
import Derived.Test.YtgehimdkdeldaabGreatDoorPart7
import Derived.Deep.LoopGhost
import Derived.Shelf.Abstract
import Derived.Laws.IdiomCopy
import Derived.Deep.AppendLies
namespace Go.Proofs.YtgehimdkdeldaabGreatDoor
section
open Go.RowKit Go.Maps
theorem QueAll.setAt {w : World} {B k g off n cap i : Nat} {L : List (Value × List Int)} {zs : List Int} (h : QueAll w B L) (hL : L[k]? = some (.slice (some ⟨g, off, none⟩) n cap, zs)) (hi : i < zs.length) (z : Int) : QueAll (w.setCell ⟨g, off + i, none⟩ (.int .i64 z)) B (L.set k (.slice (some ⟨g, off, none⟩) n cap, zs.set i z)) :=
 h.put hL ((Kept.setCell w g (off + i) _).mono fun b _ e => by rw [e]; rfl) ((h.q k _ hL).set hi z) (.inl rfl)
theorem RnM.setSz {w : World} {B r g p mb gz oz n cap : Nat} {x : Rv} (h : RnM w B r g p mb x) (hv : x.vz = .slice (some ⟨gz, oz, none⟩) n cap) {i : Nat} (hi : i < x.sz.length) (z : Int) : RnM (w.setCell ⟨gz, oz + i, none⟩ (.int .i64 z)) B r g p mb { x with sz := x.sz.set i z } := by
 have hf : Foot x.L gz := ⟨(x.vz, x.sz), by simp [Rv.L], by rw [hv]; rfl⟩
 have hr : r ≠ gz := fun e => h.r_foot (.inr (by rw [e]; exact hf))
 have hk := Kept.setCell w gz (oz + i) (.int .i64 z)
 refine ⟨(hk.block r (t_lt h.box) hr).trans h.box, own_up h.hp hk fun b hb e => h.heap_list hb (by rw [e]; exact hf), h.len, ?_, h.up, h.fl⟩
 have h1 := h.q.setAt (k := 1) (zs := x.sz) (by rw [<- hv]; rfl) hi z
 rw [<- hv] at h1
 exact h1
theorem box_put {w : World} {b k : Nat} {cs : Array Value} {t : TypeId} (h : w.heap[b]? = some (.cells cs t (0, 0))) (v : Value) : (w.setCell ⟨b, k, none⟩ v).heap[b]? = some (.cells (cs.setIfInBounds k v) t (0, 0)) := heap_setCell_same w b k cs t _ h
theorem RnM.parts {w w1 : World} {B r g p mb k : Nat} {x : Rv} {v v' : Value} {zs zs' : List Int} (h : RnM w B r g p mb x) (hL : x.L[k]? = some (v, zs)) (hk : Kept (fun b => v.ownBlock = some b) w w1) (hq : Que w1 B v' zs') (hat : v'.ownBlock = v.ownBlock \/ ∀ b, v'.ownBlock = some b -> w.heap.size <= b) :
 w1.heap[r]? = w.heap[r]? /\ w1.ownsRow B 197 2 x.vh x.ks.length (hpC x.H x.ks) /\ QueAll w1 B (x.L.set k (v', zs')) /\ (∀ b, Foot (x.L.set k (v', zs')) b -> b ≠ r) /\ (∀ b, x.vh.ownBlock = some b -> ¬ Foot (x.L.set k (v', zs')) b /\ b ≠ r) := by
 have hm : (v, zs) ∈ x.L := List.mem_of_getElem? hL
 have hfv : ∀ b, v.ownBlock = some b -> Foot x.L b := fun b hb => ⟨_, hm, hb⟩
 have hnew : ∀ b, Foot (x.L.set k (v', zs')) b -> Foot x.L b \/ w.heap.size <= b := fun b hb => by
  rcases foot_set hb with h1 | h1
  ·exact .inl h1
  ·rcases hat with h2 | h2
   ·exact .inl (hfv b (by rw [<- h2]; exact h1))
   ·exact .inr (h2 b h1)
 refine ⟨hk.block r (t_lt h.box) fun e => h.r_foot (.inr (hfv r e)), own_up h.hp hk fun b hb e => h.heap_list hb (hfv b e), h.q.put hL hk hq hat, fun b hb e => ?_, fun b hb => ⟨fun hf => ?_, fun e => ?_⟩⟩
 ·rcases hnew b hb with h1 | h1
  ·exact h.r_foot (.inr (by rw [<- e]; exact h1))
  ·have := t_lt h.box; omega
 ·rcases hnew b hf with h1 | h1
  ·exact h.heap_list hb h1
  ·have := (h.hp.lt b hb).2; omega
 ·exact h.r_foot (.inl (by rw [<- e]; exact hb))
theorem QueAll.setBox {w : World} {B r k : Nat} {L : List (Value × List Int)} (h : QueAll w B L) (hr : ∀ b, Foot L b -> b ≠ r) (v : Value) : QueAll (w.setCell ⟨r, k, none⟩ v) B L := h.kept (Kept.setCell w r k v) fun b hb e => hr b hb e
theorem RnM.appVz {w w1 : World} {B r g p mb : Nat} {x : Rv} {v' : Value} {zs' : List Int} (h : RnM w B r g p mb x) (hk : Kept (fun b => x.vz.ownBlock = some b) w w1) (hq : Que w1 B v' zs') (hat : v'.ownBlock = x.vz.ownBlock \/ ∀ b, v'.ownBlock = some b -> w.heap.size <= b) : RnM (w1.setCell ⟨r, 4, none⟩ v') B r g p mb { x with vz := v', sz := zs' } := by
 obtain ⟨h1, h2, h3, h4, h5⟩ := h.parts (k := 1) rfl hk hq hat
 exact ⟨box_put (h1.trans h.box) v', own_up h2 (Kept.setCell w1 r 4 v') fun b hb e => (h5 b hb).2 e, h.len, h3.setBox h4 v', h.up, h.fl⟩
theorem RnM.appVo {w w1 : World} {B r g p mb : Nat} {x : Rv} {v' : Value} {zs' : List Int} (h : RnM w B r g p mb x) (hk : Kept (fun b => x.vo.ownBlock = some b) w w1) (hq : Que w1 B v' zs') (hat : v'.ownBlock = x.vo.ownBlock \/ ∀ b, v'.ownBlock = some b -> w.heap.size <= b) : RnM (w1.setCell ⟨r, 3, none⟩ v') B r g p mb { x with vo := v', ow := zs' } := by
 obtain ⟨h1, h2, h3, h4, h5⟩ := h.parts (k := 0) rfl hk hq hat
 exact ⟨box_put (h1.trans h.box) v', own_up h2 (Kept.setCell w1 r 3 v') fun b hb e => (h5 b hb).2 e, h.len, h3.setBox h4 v', h.up, h.fl⟩
theorem RnM.appVw {w w1 : World} {B r g p mb : Nat} {x : Rv} {v' : Value} {zs' : List Int} (h : RnM w B r g p mb x) (hk : Kept (fun b => x.vw.ownBlock = some b) w w1) (hq : Que w1 B v' zs') (hat : v'.ownBlock = x.vw.ownBlock \/ ∀ b, v'.ownBlock = some b -> w.heap.size <= b) : RnM (w1.setCell ⟨r, 6, none⟩ v') B r g p mb { x with vw := v', wt := zs' } := by
 obtain ⟨h1, h2, h3, h4, h5⟩ := h.parts (k := 2) rfl hk hq hat
 exact ⟨box_put (h1.trans h.box) v', own_up h2 (Kept.setCell w1 r 6 v') fun b hb e => (h5 b hb).2 e, h.len, h3.setBox h4 v', h.up, h.fl⟩
theorem RnM.putHeap {w w1 : World} {B r g p mb gh cap o : Nat} {x : Rv} {v v' : Value} {bs bs' : List Int} (h : RnM w B r g p mb x) (hv : x.vh = .slice (some ⟨gh, 0, none⟩) x.ks.length cap) (hH : x.H[o]? = some (v, bs)) (hk : Kept (fun b => v.ownBlock = some b) w w1) (hq : Que w1 B v' bs') (hat : v'.ownBlock = v.ownBlock \/ ∀ b, v'.ownBlock = some b -> w.heap.size <= b) (ha : At0 v') : RnM (w1.setCell ⟨gh, o * 2, none⟩ v') B r g p mb { x with H := x.H.set o (v', bs') } := by
 obtain ⟨h1, h2, h3, h4, h5⟩ := h.parts (k := o + 3) (by show x.H[o]? = _; exact hH) hk hq hat
 have hgh := h5 gh (by rw [hv]; rfl)
 refine ⟨(set_other _ _ _ _ _ (fun e => hgh.2 e.symm)).trans (h1.trans h.box), ?_, by rw [List.length_set]; exact h.len, ?_, h.up, fun z hz => (List.mem_or_eq_of_mem_set hz).elim (h.fl z) fun e => by rw [e]; exact ha⟩
 ·have h6 := h2
  rw [hv] at h6
  have h7 := (h6.stored (o * 2) v').1
  rw [hpC_set x.H x.ks o (v', bs')] at h7
  show World.ownsRow _ _ _ _ x.vh _ _
  rw [hv]
  exact h7
 ·have h6 := h3.kept (Kept.setCell w1 gh (o * 2) v') fun b hb e => hgh.1 (by rw [<- e]; exact hb)
  exact h6
theorem RnM.putStates {w : World} {B r g p mb gh cap o : Nat} {x : Rv} (h : RnM w B r g p mb x) (hv : x.vh = .slice (some ⟨gh, 0, none⟩) x.ks.length cap) (k : Nat) : RnM (w.setCell ⟨gh, o * 2 + 1, none⟩ (.int .i64 (k : Int))) B r g p mb { x with ks := x.ks.set o k } := by
 have hb : x.vh.ownBlock = some gh := by rw [hv]; rfl
 have hr : r ≠ gh := fun e => h.r_foot (.inl (by rw [e]; exact hb))
 refine ⟨(set_other _ _ _ _ _ hr).trans h.box, ?_, by rw [List.length_set]; exact h.len, h.q.kept (Kept.setCell w gh _ _) fun b hf e => h.heap_list hb (by rw [<- e]; exact hf), h.up, h.fl⟩
 have h6 := h.hp
 rw [hv] at h6
 have h7 := (h6.stored (o * 2 + 1) (.int .i64 (k : Int))).1
 rw [hpC_setk] at h7
 show World.ownsRow _ _ _ _ x.vh _ _
 rw [hv, List.length_set]
 exact h7
end
section
open Go.RowKit Go.Maps
theorem wp_que_append {o : Oper} {a : Act} {K : Act -> World -> Prop} {Q : Exit -> Act -> World -> Prop} (w : World) (s x : Operand) (ho : o.op = .call { callee := .builtin .append, args := #[s, x], argTypes := #[39, 39] })
 (v : Value) (zs : List Int) (B : Nat) (hs : a.eval s = v) (hq : Que w B v zs) (ad : Addr) (c : Nat) (z : Int) (hx : a.eval x = .slice (some ad) 1 c) (hc : w.cell? (ad.add 0) = some (.int .i64 z)) (hn : zs.length <= 1000000) (hB : B <= w.heap.size)
 (h : ∀ v' w', Que w' B v' (zs ++ [z]) -> w.grownBy w' v.ownBlock -> (v'.ownBlock = v.ownBlock \/ v'.ownBlock = some w.heap.size) -> (At0 v -> At0 v') -> K (a.put o.dst v') w') : o.wp Tryz.prog a w K Q := by
 obtain ⟨v', w', hr, h2, h3, h4, h5⟩ := que_append o.type z ad c v zs B w hq hc hn hB
 unfold Oper.wp execOp
 simp only [ho, resolve, invoke, builtin, Sem.run_bind, Sem.run_pure, Result.andThen_ok, List.map_toArray, List.map_cons, List.map_nil, hs, hx, hr]
 exact h v' w' h2 h3 h4 h5
theorem wpList_que_append {ops : Array Oper} {rest : List Oper} {o : Oper} {a : Act} {Q : Exit -> Act -> World -> Prop} (w : World) (hgd : o.guard = none) (s x : Operand) (ho : o.op = .call { callee := .builtin .append, args := #[s, x], argTypes := #[39, 39] })
 (v : Value) (zs : List Int) (B : Nat) (hs : a.eval s = v) (hq : Que w B v zs) (ad : Addr) (c : Nat) (z : Int) (hx : a.eval x = .slice (some ad) 1 c) (hc : w.cell? (ad.add 0) = some (.int .i64 z)) (hn : zs.length <= 1000000) (hB : B <= w.heap.size)
 (h : ∀ v' w', Que w' B v' (zs ++ [z]) -> w.grownBy w' v.ownBlock -> (v'.ownBlock = v.ownBlock \/ v'.ownBlock = some w.heap.size) -> (At0 v -> At0 v') -> wpList Tryz.prog ops Q rest (a.put o.dst v') w') : wpList Tryz.prog ops Q (o :: rest) a w :=
 wpList_plain hgd fun _ hK => wp_que_append w s x ho v zs B hs hq ad c z hx hc hn hB fun v' w' h2 h3 h4 h5 => hK _ _ (h v' w' h2 h3 h4 h5)
theorem Que.alloc {w : World} {B : Nat} {v : Value} {zs : List Int} (h : Que w B v zs) (o : Obj) : Que (w.alloc o) B v zs := h.at fun b hb => ((Below.refl _ w).alloc (Nat.le_refl _) o).block b (h.lt b hb).2
theorem que_up {w : World} {v v' : Value} {o : Obj} (h : v'.ownBlock = v.ownBlock \/ v'.ownBlock = some (w.alloc o).heap.size) : v'.ownBlock = v.ownBlock \/ ∀ b, v'.ownBlock = some b -> w.heap.size <= b := by
 rcases h with h | h
 ·exact .inl h
 ·refine .inr fun b hb => ?_
  rw [h] at hb
  have := Option.some.inj hb
  rw [World.size_alloc] at this
  omega
theorem one_cell (w : World) (z : Int) : (w.alloc (.cells #[.int .i64 z] 3)).cell? ((⟨w.heap.size, 0, none⟩ : Addr).add 0) = some (.int .i64 z) := by
 rw [Addr.add_lit]
 exact cell0_of (heap_alloc_new w _) rfl
theorem RnM.appZ {w w1 : World} {B r g p mb : Nat} {x : Rv} {u v' : Value} {zs' : List Int} (h : RnM w B r g p mb x) (hu : x.vz = u) (hk : Kept (fun b => u.ownBlock = some b) w w1) (hq : Que w1 B v' zs') (hat : v'.ownBlock = u.ownBlock \/ ∀ b, v'.ownBlock = some b -> w.heap.size <= b) : RnM (w1.setCell ⟨r, 4, none⟩ v') B r g p mb { x with vz := v', sz := zs' } := by
 subst hu
 exact h.appVz hk hq hat
theorem RnM.appO {w w1 : World} {B r g p mb : Nat} {x : Rv} {u v' : Value} {zs' : List Int} (h : RnM w B r g p mb x) (hu : x.vo = u) (hk : Kept (fun b => u.ownBlock = some b) w w1) (hq : Que w1 B v' zs') (hat : v'.ownBlock = u.ownBlock \/ ∀ b, v'.ownBlock = some b -> w.heap.size <= b) : RnM (w1.setCell ⟨r, 3, none⟩ v') B r g p mb { x with vo := v', ow := zs' } := by
 subst hu
 exact h.appVo hk hq hat
theorem RnM.appW {w w1 : World} {B r g p mb : Nat} {x : Rv} {u v' : Value} {zs' : List Int} (h : RnM w B r g p mb x) (hu : x.vw = u) (hk : Kept (fun b => u.ownBlock = some b) w w1) (hq : Que w1 B v' zs') (hat : v'.ownBlock = u.ownBlock \/ ∀ b, v'.ownBlock = some b -> w.heap.size <= b) : RnM (w1.setCell ⟨r, 6, none⟩ v') B r g p mb { x with vw := v', wt := zs' } := by
 subst hu
 exact h.appVw hk hq hat
theorem RnM.boxAt {w w1 : World} {B r g p mb k : Nat} {x : Rv} {u : Value} {zs : List Int} (h : RnM w B r g p mb x) (hL : x.L[k]? = some (u, zs)) (hk : Kept (fun b => u.ownBlock = some b) w w1) : w1.heap[r]? = some (.cells #[.pointer (some ⟨g, 0, none⟩), .pointer (some ⟨p, 0, none⟩), x.vh, x.vo, x.vz, .map (some mb), x.vw] 164 (0, 0)) :=
 (hk.block r (t_lt h.box) fun e => h.r_foot (.inr ⟨_, List.mem_of_getElem? hL, e⟩)).trans h.box
theorem appKept {w w1 : World} {r k j : Nat} {x : Rv} {u v' : Value} {zs : List Int} (hL : x.L[k]? = some (u, zs)) (hk : Kept (fun b => u.ownBlock = some b) w w1) : Kept (fun b => b = r \/ x.foot b) w (w1.setCell ⟨r, j, none⟩ v') :=
 (hk.mono fun _ _ e => .inr (.inr ⟨_, List.mem_of_getElem? hL, e⟩)).trans ((Kept.setCell w1 r j v').mono fun _ _ e => .inl e)
theorem foot_app {x : Rv} {k b : Nat} {u v' : Value} {zs zs' : List Int} {n : Nat} (hL : x.L[k]? = some (u, zs)) (hat : v'.ownBlock = u.ownBlock \/ ∀ b, v'.ownBlock = some b -> n <= b) (hb : x.vh.ownBlock = some b \/ Foot (x.L.set k (v', zs')) b) : x.foot b \/ n <= b := by
 rcases hb with hb | hb
 ·exact .inl (.inl hb)
 ·rcases foot_set hb with h1 | h1
  ·exact .inl (.inr h1)
  ·rcases hat with h2 | h2
   ·exact .inl (.inr ⟨_, List.mem_of_getElem? hL, by simp only; rw [<- h2]; exact h1⟩)
   ·exact .inr (h2 b h1)
theorem Que.slice {w : World} {B : Nat} {v : Value} {zs : List Int} (h : Que w B v zs) : ∃ a n c, v = .slice a n c := by
 obtain ⟨a, c, e, _⟩ := h.shape
 exact ⟨a, _, c, e⟩
structure Grew (w w' : World) (r : Nat) (x x' : Rv) : Prop where
 kp : Kept (fun b => b = r \/ x.foot b) w w'
 ft : ∀ b, x'.foot b -> x.foot b \/ w.heap.size <= b
theorem Grew.refl (w : World) (r : Nat) (x : Rv) : Grew w w r x x := ⟨Kept.refl _ _, fun _ h => .inl h⟩
theorem Grew.trans {w w1 w2 : World} {r : Nat} {x x1 x2 : Rv} (h : Grew w w1 r x x1) (k : Grew w1 w2 r x1 x2) : Grew w w2 r x x2 :=
 ⟨h.kp.trans2 k.kp fun b hb => by
  rcases hb with hb | hb
  ·exact .inl (.inl hb)
  ·exact (h.ft b hb).imp .inr id, fun b hb => by
  rcases k.ft b hb with h1 | h1
  ·exact h.ft b h1
  ·have := h.kp.size; exact .inr (by omega)⟩
theorem Grew.below {w w1 w2 : World} {r : Nat} {x x1 : Rv} (h : Grew w w1 r x x1) (hb : Below w1.heap.size w1 w2) : Grew w w2 r x x1 := ⟨h.kp.trans (Kept.of_below hb), h.ft⟩
end
section
open Go.RowKit Go.Maps
attribute [local go_sem ↓] Go.wp_at_zero Go.wp_at_succ
theorem sg_b {w wr : World} {P : Prop} (h : P /\ Hid (Below w.heap.size w wr)) : Below w.heap.size w wr := h.2.out
theorem sg_bel {a b c : World} (h : Below b.heap.size b c) (k : Below a.heap.size a b) : Below a.heap.size a c := k.trans (h.mono k.size)
theorem sg_cell {wa wb : World} {a : Addr} {x : Value} (h : wa.cell? a = some x) (hb : Below wa.heap.size wa wb) : wb.cell? a = some x := (hb.cell (World.block_lt_of_cell? wa _ h)).trans h
theorem sg_free {wa wb : World} {a : Addr} (hl : a.block < wa.heap.size) (h : wa.frozen? a = false) (hb : Below wa.heap.size wa wb) : wb.frozen? a = false := (World.frozen?_of_block (hb.block _ hl)).trans h
theorem sg_up {w2 wa wb : World} {a0 a1 : Addr} {x0 x1 : Value} (hb : Below wa.heap.size wa wb) (h : (wa.cell? a0 = some x0 /\ wa.cell? a1 = some x1) /\ Hid (Below w2.heap.size w2 wa)) : (wb.cell? a0 = some x0 /\ wb.cell? a1 = some x1) /\ Hid (Below w2.heap.size w2 wb) :=
 ⟨⟨sg_cell h.1.1 hb, sg_cell h.1.2 hb⟩, (sg_bel hb h.2.out : Below w2.heap.size w2 wb)⟩
theorem RnM.hform {w : World} {B r g p mb : Nat} {x : Rv} (h : RnM w B r g p mb x) (h0 : 0 < x.ks.length) : ∃ gh cap, x.vh = .slice (some ⟨gh, 0, none⟩) x.ks.length cap := by
 obtain ⟨gh, cap, h1, _⟩ := h.hp.form h0
 exact ⟨gh, cap, h1⟩
theorem RnM.hcell {w : World} {B r g p mb gh cap o k : Nat} {x : Rv} {v : Value} {bs : List Int} (h : RnM w B r g p mb x) (hv : x.vh = .slice (some ⟨gh, 0, none⟩) x.ks.length cap) (hH : x.H[o]? = some (v, bs)) (hk : x.ks[o]? = some k) : w.cell? ⟨gh, o * 2, none⟩ = some v /\ w.cell? ⟨gh, o * 2 + 1, none⟩ = some (.int .i64 (k : Int)) /\ ∀ j, w.frozen? ⟨gh, j, none⟩ = false := by
 have h1 := h.hp
 rw [hv] at h1
 have hl := (List.getElem?_eq_some_iff.1 hk).1
 obtain ⟨h2, h3⟩ := hpC_at x.H x.ks o (v, bs) k hH hk
 exact ⟨(h1.cellAt (o * 2) (by omega)).trans h2, (h1.cellAt (o * 2 + 1) (by omega)).trans h3, fun j => h1.frozenAt j⟩
structure AddAt (w w' : World) (B r g p mb : Nat) (x x' : Rv) (o old fr : Nat) (z n : Int) (bs : List Int) : Prop where
 m : RnM w' B r g p mb x'
 ow : x'.ow = x.ow ++ [(o : Int)]
 sz : x'.sz = x.sz.set old (z - n) ++ [n]
 ks : x'.ks = x.ks
 hs : x'.H.map (·.2) = (x.H.map (·.2)).set o (bs ++ [(fr : Int)])
 wt : x'.wt = if bs.length = 1 then x.wt ++ [(o : Int)] else x.wt
 gw : Grew w w' r x x'
set_option linter.unusedSimpArgs false in
set_option maxRecDepth 100000 in
set_option maxHeartbeats 8000000 in
theorem radd_any (w0 : World) (B r g p mb : Nat) (x : Rv) (c : Nat -> Int) (s : Pst) (fr old o k : Nat) (z : Int) (v : Value) (bs : List Int) (w : World) (hM : RnM w B r g p mb x) (hP : Pt w0 w p c) (hL : Lay c s) (hO : s.Ok) (hfr : fr < s.nb) (how : x.ow[old]? = some (o : Int)) (hsz : x.sz[old]? = some z) (hH : x.H[o]? = some (v, bs)) (hks : x.ks[o]? = some k)
 (h1 : x.ow.length <= 100000) (h2 : x.sz.length <= 100000) (h3 : bs.length <= 100000) (h4 : x.wt.length <= 100000) (hz : 0 <= z /\ z <= 1000) :
 Calls Tryz.prog 128 #[.pointer (some ⟨r, 0, none⟩), .int .i64 fr, .int .i64 old] w fun e w' => e = .returned (.tuple #[]) /\ ∃ x', AddAt w w' B r g p mb x x' o old fr z (s.mem fr).length bs := by
 have hMem := fun W (hb : Below w.heap.size w W) => rmembers_any w0 B r g p mb x c s fr W (hM.below hb) (hP.below hb) hL hO hfr
 have hml : (s.mem fr).length <= 1000 := by rw [mem_len hO hfr]; have := hO.iv fr hfr; have := hO.n1; omega
 obtain ⟨c0, c1, c2, c3, c4, c5, c6⟩ := seven_cells hM.box
 have holt := (List.getElem?_eq_some_iff.1 how).1
 have hzlt := (List.getElem?_eq_some_iff.1 hsz).1
 have hkl := (List.getElem?_eq_some_iff.1 hks).1
 obtain ⟨go, oo, co, hvo, hoc, cow, fow⟩ := (hM.q.q 0 (x.vo, x.ow) rfl).cell how
 obtain ⟨gz, oz, cz, hvz, hzc, csz, fsz⟩ := (hM.q.q 1 (x.vz, x.sz) rfl).cell hsz
 simp only at hvo hvz
 obtain ⟨gh, ch, hvh⟩ := hM.hform (by omega)
 obtain ⟨M, hMM⟩ : ∃ M, M = (s.mem fr).length := ⟨_, rfl⟩
 rw [<- hMM] at hml ⊢
 obtain ⟨nz, hnz⟩ : ∃ nz, nz = x.sz.length := ⟨_, rfl⟩
 obtain ⟨no, hno⟩ : ∃ no, no = x.ow.length := ⟨_, rfl⟩
 obtain ⟨nk, hnk⟩ : ∃ nk, nk = x.ks.length := ⟨_, rfl⟩
 rw [hvo] at c3
 rw [hvz] at c4
 rw [hvh] at c2
 rw [<- hno] at c3 hoc holt
 rw [<- hnz] at c4 hzc hzlt
 rw [<- hnk] at c2 hkl
 have p0 : (0 : Int) <= (old : Int) := by omega
 have p1 : (old : Int) < (no : Int) := by omega
 have p2 : (old : Int) < (nz : Int) := by omega
 have p3 : (0 : Int) <= (o : Int) := by omega
 have p4 : (o : Int) < (nk : Int) := by omega
 have p5 : IntKind.i64.wrap (z - (M : Int)) = z - (M : Int) := by rw [IntKind.wrap_i64]; omega
 have H : Hid _ := And.intro hM (And.intro hMem (And.intro hMM (And.intro hvo (And.intro hvz (And.intro hvh (And.intro hnz (And.intro hno (And.intro hnk (And.intro hH (And.intro hks (And.intro h1 (And.intro h2 (And.intro h3 (And.intro h4 hsz))))))))))))))
 clear hM hMem hMM hvo hvz hvh hnz hno hnk hH hks h1 h2 h3 h4 how hsz hP hL hO hfr hoc hzc
 go_enter Tryz.func128, Tryz.ntmps128
 go_upto_region 0 with fail
 go_region_held3 (fun w' => (w'.cell? ⟨r, 3, none⟩ = some (.slice (some ⟨go, oo, none⟩) no co) /\ w'.cell? ⟨go, oo + old, none⟩ = some (.int .i64 o)) /\ Hid (Below w.heap.size w w')) (first | exact sg_up hb2 (by assumption) | exact ⟨⟨c3, cow⟩, ((Below.refl _ _).drew : Below w.heap.size w w.drew)⟩ | go_keep)
  ((first
    | (go_at_call 67; refine Calls.mono (H.out.2.1 _ (sg_b (by assumption))) ?_; rintro r1 w1 ⟨u, rfl, hu, hb2⟩; obtain ⟨ua, uc, rfl⟩ := row_shape hu; rw [<- H.out.2.2.1])
    | fail))
 have hbw := sg_b (by assumption)
 have hM1 := H.out.1.below hbw
 have y4 := sg_cell c4 hbw
 have ysz := sg_cell csz hbw
 have yfz := sg_free (World.block_lt_of_cell? w _ csz) fsz hbw
 have H1 : Hid _ := And.intro hM1 hbw
 clear c0 c1 c2 c3 c4 c5 c6 csz fsz cow fow hM1 hbw hb2 hu
 rename_i hS3
 clear hS3
 go_upto_region 2 with fail
 obtain ⟨wA, hwA⟩ : ∃ wA, wA = w1.setCell ⟨gz, oz + old, none⟩ (.int .i64 (z - (M : Int))) := ⟨_, rfl⟩
 rw [<- hwA]
 obtain ⟨xA, hxA⟩ : ∃ xA : Rv, xA = { x with sz := x.sz.set old (z - (M : Int)) } := ⟨_, rfl⟩
 have hMA : RnM wA B r g p mb xA := by rw [hwA, hxA]; exact H1.out.1.setSz H.out.2.2.2.2.1 (by rw [<- H.out.2.2.2.2.2.2.1]; exact hzlt) _
 have hGA : Grew w wA r x xA := by
  rw [hwA, hxA]
  exact ⟨(Kept.of_below H1.out.2).trans ((Kept.setCell w1 gz _ _).mono fun b _ e => .inr (.inr ⟨(x.vz, x.sz), by simp [Rv.L], by simp only; rw [H.out.2.2.2.2.1, e]; rfl⟩)), fun b hb => foot_app (x := x) (k := 1) (v' := x.vz) (zs' := x.sz.set old (z - (M : Int))) rfl (.inl rfl) hb⟩
 have HA : Hid _ := And.intro hMA (And.intro hGA hxA)
 clear y4 ysz yfz hwA hMA hGA hxA
 have hL : xA.L[1]? = some (.slice (some ⟨gz, oz, none⟩) nz cz, x.sz.set old (z - (M : Int))) := by rw [HA.out.2.2]; show some (x.vz, _) = some (_, _); rw [H.out.2.2.2.2.1, <- H.out.2.2.2.2.2.2.1]
 have hQ := HA.out.1.q.q 1 _ hL
 obtain ⟨b0, b1, b2, b3, b4, b5, b6⟩ := seven_cells HA.out.1.box
 have hu : xA.vz = .slice (some ⟨gz, oz, none⟩) nz cz := by have h9 := congrArg (Option.map (·.1)) hL; exact Option.some.inj h9
 rw [hu] at b4
 have HQ : Hid _ := And.intro hQ (And.intro hL hu)
 have hB : B <= (wA.alloc (.cells #[.int .i64 ((M : Int))] 3)).heap.size := by have := t_lt HA.out.1.box; have := HA.out.1.up; rw [World.size_alloc]; omega
 clear hQ hL hu
 go_upto_region 3 with (at_builtin; refine wpList_que_append _ rfl _ _ rfl (.slice (some ⟨gz, oz, none⟩) nz cz) (x.sz.set old (z - (M : Int))) B rfl (HQ.out.1.alloc _) ⟨wA.heap.size, 0, none⟩ 1 ((M : Int)) rfl (one_cell _ _) (by rw [List.length_set]; have := H.out.2.2.2.2.2.2.2.2.2.2.2.2.1; omega) hB ?_; intro vn wn hqn hgn han ha0; clear ha0; obtain ⟨an, nn, cn, rfl⟩ := hqn.slice; have hkn := grown_alloc hgn; have hbx := HA.out.1.boxAt HQ.out.2.1 hkn; have bc := (seven_cells hbx).2.2.2.2.1; have bf := blk_free hbx 4; have HN : Hid _ := And.intro hqn (And.intro hkn (que_up han)); clear hqn hgn han hkn hbx)
 obtain ⟨wA', hw2⟩ : ∃ w2, w2 = wn.setCell ⟨r, 4, none⟩ (.slice an nn cn) := ⟨_, rfl⟩
 rw [<- hw2]
 obtain ⟨xB, hx2⟩ : ∃ x2 : Rv, x2 = { xA with vz := .slice an nn cn, sz := x.sz.set old (z - (M : Int)) ++ [(M : Int)] } := ⟨_, rfl⟩
 have hM2 : RnM wA' B r g p mb xB := by rw [hw2, hx2]; exact HA.out.1.appZ HQ.out.2.2 HN.out.2.1 HN.out.1 HN.out.2.2
 have hG2 : Grew wA wA' r xA xB := by rw [hw2, hx2]; exact ⟨appKept HQ.out.2.1 HN.out.2.1, fun b hb => foot_app (k := 1) HQ.out.2.1 HN.out.2.2 hb⟩
 have HB : Hid _ := And.intro hM2 (And.intro (HA.out.2.1.trans hG2) (And.intro hx2 HA.out.2.2))
 clear b0 b1 b2 b3 b4 b5 b6 hB HQ HN hw2 hx2 hM2 hG2 bc bf
 have hL : xB.L[0]? = some (.slice (some ⟨go, oo, none⟩) no co, x.ow) := by rw [HB.out.2.2.1, HA.out.2.2]; show some (x.vo, _) = some (_, _); rw [H.out.2.2.2.1, <- H.out.2.2.2.2.2.2.2.1]
 have hQ := HB.out.1.q.q 0 _ hL
 obtain ⟨b0, b1, b2, b3, b4, b5, b6⟩ := seven_cells HB.out.1.box
 have hu : xB.vo = .slice (some ⟨go, oo, none⟩) no co := by have h9 := congrArg (Option.map (·.1)) hL; exact Option.some.inj h9
 rw [hu] at b3
 have HQ : Hid _ := And.intro hQ (And.intro hL hu)
 have hB : B <= (wA'.alloc (.cells #[.int .i64 ((o : Int))] 3)).heap.size := by have := t_lt HB.out.1.box; have := HB.out.1.up; rw [World.size_alloc]; omega
 clear hQ hL hu
 go_upto_region 4 with (at_builtin; refine wpList_que_append _ rfl _ _ rfl (.slice (some ⟨go, oo, none⟩) no co) (x.ow) B rfl (HQ.out.1.alloc _) ⟨wA'.heap.size, 0, none⟩ 1 ((o : Int)) rfl (one_cell _ _) (by have := H.out.2.2.2.2.2.2.2.2.2.2.2.1; omega) hB ?_; intro vn wn hqn hgn han ha0; clear ha0; obtain ⟨an, nn, cn, rfl⟩ := hqn.slice; have hkn := grown_alloc hgn; have hbx := HB.out.1.boxAt HQ.out.2.1 hkn; have bc := (seven_cells hbx).2.2.2.1; have bf := blk_free hbx 3; have HN : Hid _ := And.intro hqn (And.intro hkn (que_up han)); clear hqn hgn han hkn hbx)
 obtain ⟨wA'', hw2⟩ : ∃ w2, w2 = wn.setCell ⟨r, 3, none⟩ (.slice an nn cn) := ⟨_, rfl⟩
 rw [<- hw2]
 obtain ⟨xC, hx2⟩ : ∃ x2 : Rv, x2 = { xB with vo := .slice an nn cn, ow := x.ow ++ [(o : Int)] } := ⟨_, rfl⟩
 have hM2 : RnM wA'' B r g p mb xC := by rw [hw2, hx2]; exact HB.out.1.appO HQ.out.2.2 HN.out.2.1 HN.out.1 HN.out.2.2
 have hG2 : Grew wA' wA'' r xB xC := by rw [hw2, hx2]; exact ⟨appKept HQ.out.2.1 HN.out.2.1, fun b hb => foot_app (k := 0) HQ.out.2.1 HN.out.2.2 hb⟩
 have HC : Hid _ := And.intro hM2 (And.intro (HB.out.2.1.trans hG2) (And.intro hx2 HB.out.2.2))
 clear b0 b1 b2 b3 b4 b5 b6 hB HQ HN hw2 hx2 hM2 hG2 bc bf
 have hHC : xC.H[o]? = some (v, bs) := by rw [HC.out.2.2.1, HB.out.2.2.1, HA.out.2.2]; exact H.out.2.2.2.2.2.2.2.2.2.1
 have hvC : xC.vh = .slice (some ⟨gh, 0, none⟩) nk ch := by rw [HC.out.2.2.1, HB.out.2.2.1, HA.out.2.2]; show x.vh = _; rw [H.out.2.2.2.2.2.1, <- H.out.2.2.2.2.2.2.2.2.1]
 have hkC : xC.ks = x.ks := by rw [HC.out.2.2.1, HB.out.2.2.1, HA.out.2.2]
 have hvC' : xC.vh = .slice (some ⟨gh, 0, none⟩) xC.ks.length ch := by rw [hkC, <- H.out.2.2.2.2.2.2.2.2.1]; exact hvC
 obtain ⟨hc0, hc1, hcf⟩ := HC.out.1.hcell hvC' hHC (by rw [hkC]; exact H.out.2.2.2.2.2.2.2.2.2.2.1)
 have hQv := HC.out.1.q.q (o + 3) (v, bs) (by show xC.H[o]? = _; exact hHC)
 obtain ⟨b0, b1, b2, b3, b4, b5, b6⟩ := seven_cells HC.out.1.box
 rw [hvC] at b2
 obtain ⟨av, cv, hve, _⟩ := hQv.shape
 simp only at hve
 obtain ⟨nb, hnb⟩ : ∃ nb, nb = bs.length := ⟨_, rfl⟩
 rw [<- hnb] at hve
 rw [hve] at hc0 hQv hHC
 have hf0 := hcf (o * 2)
 have hB : B <= (wA''.alloc (.cells #[.int .i64 (fr : Int)] 3)).heap.size := by have := t_lt HC.out.1.box; have := HC.out.1.up; rw [World.size_alloc]; omega
 have HQ : Hid _ := And.intro hQv (And.intro hHC (And.intro hvC' (And.intro hkC (And.intro hnb hve))))
 clear hQv hHC hvC hvC' hkC hnb hve hc1 hcf
 go_upto_region 6 with (at_builtin; refine wpList_que_append _ rfl _ _ rfl (.slice av nb cv) bs B rfl (HQ.out.1.alloc _) ⟨wA''.heap.size, 0, none⟩ 1 (fr : Int) rfl (one_cell _ _) (by have := H.out.2.2.2.2.2.2.2.2.2.2.2.2.2.1; omega) hB ?_; intro vn wn hqn hgn han ha0; obtain ⟨an, cn, hne, _⟩ := hqn.shape; obtain ⟨nn, hnn⟩ : ∃ nn, nn = (bs ++ [(fr : Int)]).length := ⟨_, rfl⟩; rw [<- hnn] at hne; subst hne; have hkn := grown_alloc hgn; have hpt := HC.out.1.parts (k := o + 3) (by show xC.H[o]? = _; exact HQ.out.2.1) hkn hqn (que_up han); have hrow := hpt.2.1; rw [HQ.out.2.2.1] at hrow; have bc := (hrow.cellAt (o * 2) (by rw [HQ.out.2.2.2.1, <- H.out.2.2.2.2.2.2.2.2.1]; omega)).trans (hpC_at xC.H xC.ks o _ k HQ.out.2.1 (by rw [HQ.out.2.2.2.1]; exact H.out.2.2.2.2.2.2.2.2.2.2.1)).1; have bf := hrow.frozenAt (o * 2); have HN : Hid _ := And.intro hqn (And.intro hkn (And.intro (que_up han) hnn)); have HA0 : Hid (At0 _) := (ha0 (HC.out.1.fl _ (List.mem_of_getElem? HQ.out.2.1)) : At0 _); clear hqn hgn han hkn hpt hrow hnn ha0)
 obtain ⟨wD, hw2⟩ : ∃ w2, w2 = wn.setCell ⟨gh, o * 2, none⟩ (.slice an nn cn) := ⟨_, rfl⟩
 rw [<- hw2]
 obtain ⟨xD, hx2⟩ : ∃ x2 : Rv, x2 = { xC with H := xC.H.set o (.slice an nn cn, bs ++ [(fr : Int)]) } := ⟨_, rfl⟩
 have hM2 : RnM wD B r g p mb xD := by rw [hw2, hx2]; exact HC.out.1.putHeap HQ.out.2.2.1 HQ.out.2.1 HN.out.2.1 HN.out.1 HN.out.2.2.1 HA0.out
 have hG2 : Grew wA'' wD r xC xD := by
  rw [hw2, hx2]
  exact ⟨(HN.out.2.1.mono fun b _ e => .inr (.inr ⟨_, List.mem_of_getElem? (show xC.L[o + 3]? = some _ from HQ.out.2.1), e⟩)).trans ((Kept.setCell wn gh (o * 2) _).mono fun b _ e => .inr (.inl (by rw [HQ.out.2.2.1, e]; rfl))), fun b hb => foot_app (x := xC) (k := o + 3) HQ.out.2.1 HN.out.2.2.1 hb⟩
 have hxw : xD.wt = x.wt /\ xD.vw = x.vw := by rw [hx2, HC.out.2.2.1, HB.out.2.2.1, HA.out.2.2]; exact ⟨rfl, rfl⟩
 have hcell := hM2.hcell (o := o) (k := k) (v := .slice an nn cn) (bs := bs ++ [(fr : Int)]) (by rw [hx2]; exact HQ.out.2.2.1) (by rw [hx2]; exact List.getElem?_set_self (List.getElem?_eq_some_iff.1 HQ.out.2.1).1) (by rw [hx2]; show xC.ks[o]? = _; rw [HQ.out.2.2.2.1]; exact H.out.2.2.2.2.2.2.2.2.2.2.1)
 have d0 := hcell.1
 have hnn : nn = nb + 1 := by rw [HN.out.2.2.2, HQ.out.2.2.2.2.1]; simp
 have HD : Hid _ := And.intro hM2 (And.intro (HC.out.2.1.trans hG2) (And.intro hx2 (And.intro hxw (And.intro HQ.out.2.2.2.2.1 (And.intro HQ.out.2.2.2.1 HN.out.2.2.2)))))
 clear b0 b1 b2 b3 b4 b5 b6 hB HQ HN hw2 hx2 hM2 hG2 bc bf hxw hcell hf0 hc0
 have hfin : ∀ (w' : World) (x' : Rv), RnM w' B r g p mb x' -> Grew wD w' r xD x' -> x'.ow = xD.ow -> x'.sz = xD.sz -> x'.ks = xD.ks -> x'.H = xD.H -> x'.wt = (if bs.length = 1 then x.wt ++ [(o : Int)] else x.wt) -> ∃ x', AddAt w w' B r g p mb x x' o old fr z (M : Int) bs := fun w' x' e1 e2 e3 e4 e5 e6 e7 => by
  refine ⟨x', e1, ?_, ?_, ?_, ?_, e7, HD.out.2.1.trans e2⟩
  ·rw [e3, HD.out.2.2.1, HC.out.2.2.1]
  ·rw [e4, HD.out.2.2.1, HC.out.2.2.1, HB.out.2.2.1]
  ·rw [e5, HD.out.2.2.1]; exact HD.out.2.2.2.2.2.1
  ·rw [e6, HD.out.2.2.1, HC.out.2.2.1, HB.out.2.2.1, HA.out.2.2]
   rw [List.map_set]
 have HF : Hid _ := hfin
 clear hfin
 by_cases hb1 : nb = 1
 ·have q1 : ((nn : Int) == 2) = true := by rw [hnn, hb1]; rfl
  have HB1 : Hid _ := And.intro hb1 hnn
  clear hb1 hnn
  obtain ⟨aw, cw, hwe, _⟩ := (HD.out.1.q.q 2 (xD.vw, xD.wt) rfl).shape
  simp only at hwe
  obtain ⟨nw, hnw⟩ : ∃ nw, nw = xD.wt.length := ⟨_, rfl⟩
  rw [<- hnw] at hwe
  have hL : xD.L[2]? = some (.slice aw nw cw, xD.wt) := by show some (xD.vw, xD.wt) = _; rw [hwe]
  obtain ⟨b0, b1, b2, b3, b4, b5, b6⟩ := seven_cells HD.out.1.box
  rw [hwe] at b6
  have hwl : xD.wt.length <= 1000000 := by rw [HD.out.2.2.2.1.1]; have := H.out.2.2.2.2.2.2.2.2.2.2.2.2.2.2.1; omega
  have hB : B <= (wD.alloc (.cells #[.int .i64 (o : Int)] 3)).heap.size := by have := t_lt HD.out.1.box; have := HD.out.1.up; rw [World.size_alloc]; omega
  have HQ : Hid _ := And.intro (HD.out.1.q.q 2 _ hL) (And.intro hL hwe)
  clear hL hwe hnw
  go_wp2_with (at_builtin; refine wpList_que_append _ rfl _ _ rfl (.slice aw nw cw) xD.wt B rfl (HQ.out.1.alloc _) ⟨wD.heap.size, 0, none⟩ 1 (o : Int) rfl (one_cell _ _) hwl hB ?_; intro vn wn hqn hgn han ha0; clear ha0; obtain ⟨an, nn, cn, rfl⟩ := hqn.slice; have hkn := grown_alloc hgn; have hbx := HD.out.1.boxAt HQ.out.2.1 hkn; have bc := (seven_cells hbx).2.2.2.2.2.2; have bf := blk_free hbx 6; have HN : Hid _ := And.intro hqn (And.intro hkn (que_up han)); clear hqn hgn han hkn hbx)
  go_end0
  exact ⟨rfl, HF.out _ _ (HD.out.1.appW HQ.out.2.2 HN.out.2.1 HN.out.1 HN.out.2.2) ⟨appKept HQ.out.2.1 HN.out.2.1, fun b hb => foot_app (x := xD) (k := 2) HQ.out.2.1 HN.out.2.2 hb⟩ rfl rfl rfl rfl (by rw [if_pos (by rw [<- HD.out.2.2.2.2.1]; exact HB1.out.1)]; show xD.wt ++ [(o : Int)] = _; rw [HD.out.2.2.2.1.1])⟩
 ·have q1 : ((nn : Int) == 2) = false := by rw [hnn]; simp; omega
  have HB1 : Hid _ := And.intro hb1 hnn
  clear hb1 hnn
  go_wp2_with fail
  go_end0
  exact ⟨rfl, HF.out _ _ HD.out.1 (Grew.refl _ _ _) rfl rfl rfl rfl (by rw [if_neg (by rw [<- HD.out.2.2.2.2.1]; exact HB1.out.1)]; exact HD.out.2.2.2.1.1)⟩
end
section
open Go.RowKit Go.Maps
def Rv.of (x : Rv) (b : Nat) : Int := (x.ow[b]?).getD 0
structure RunI (s : Pst) (x : Rv) : Prop where
 ow : x.ow.length = s.nb
 sz : x.sz.length = s.nb
 szv : ∀ b, b < s.nb -> x.sz[b]? = some ((s.mem b).length : Int)
 own : ∀ b, b < s.nb -> ∃ o : Nat, x.ow[b]? = some (o : Int) /\ o < x.ks.length
 nd : ∀ (o : Nat) (bs : List Int), (x.H.map (·.2))[o]? = some bs -> bs.Nodup
 hs : ∀ (o : Nat) (bs : List Int), (x.H.map (·.2))[o]? = some bs -> ∀ z, z ∈ bs ↔ ∃ b : Nat, z = (b : Int) /\ b < s.nb /\ x.ow[b]? = some (o : Int)
 wt : ∀ (o : Nat) (bs : List Int), (x.H.map (·.2))[o]? = some bs -> 2 <= bs.length -> (o : Int) ∈ x.wt
 wtl : x.wt.length <= s.nb
 wtn : ∀ z ∈ x.wt, ∃ o : Nat, z = (o : Int) /\ o < x.ks.length
 len : x.H.length = x.ks.length
theorem split_nb {s : Pst} {b : Nat} (h : s.splits b) : (s.split b).nb = s.nb + 1 := by
 unfold Pst.split
 rw [if_pos h]
 split <;> rfl
theorem split_nb_not {s : Pst} {b : Nat} (h : ¬ s.splits b) : (s.split b).nb = s.nb := by
 unfold Pst.split
 rw [if_neg h]
 rfl
theorem mem_of_O {s t : Pst} (hn : t.n = s.n) {y : Nat} (h : ∀ e, e < s.n -> (t.O e = y ↔ s.O e = y)) : t.mem y = s.mem y := by
 unfold Pst.mem
 rw [hn]
 congr 1
 refine List.filter_congr fun e he => ?_
 exact decide_eq_decide.2 (h e (List.mem_range.1 he))
theorem split_mem_other {s : Pst} (hO : s.Ok) {b y : Nat} (hb : b < s.nb) (hy : y < s.nb) (hne : y ≠ b) : (s.split b).mem y = s.mem y := by
 refine mem_of_O (split_ok hO hb).2.1 fun e he => ?_
 rw [split_O hO hb he]
 by_cases h : s.splits b /\ s.O e = b /\ s.isM e = decide (2 * (s.R b - s.B b) <= s.D b - s.B b)
 ·rw [if_pos h]
  have := h.2.1
  omega
 ·rw [if_neg h]
theorem mem_not {s : Pst} (hO : s.Ok) {b : Nat} (hb : b < s.nb) (h : ¬ s.splits b) (y : Nat) : (s.split b).mem y = s.mem y := mem_of_O (split_ok hO hb).2.1 fun e _ => by rw [clear_O s b h]
theorem split_mem_sum {s : Pst} (hO : s.Ok) {b : Nat} (hb : b < s.nb) (h : s.splits b) : ((s.split b).mem b).length + ((s.split b).mem s.nb).length = (s.mem b).length := by
 have hO' := (split_ok hO hb).1
 have hnb := split_nb h
 have v := hO.iv b hb
 rw [mem_len hO hb, mem_len hO' (by omega), mem_len hO' (by omega)]
 unfold Pst.split
 rw [if_pos h]
 obtain ⟨q1, q2⟩ := h
 have hne : b ≠ s.nb := by omega
 split <;> simp only [Pst.cut, upd_same, upd_ne _ _ hne] <;> omega
theorem split_keep {s : Pst} (hO : s.Ok) {b : Nat} (hb : b < s.nb) {e : Nat} (he : e < s.n) : (s.split b).O e = s.O e \/ (s.splits b /\ (s.split b).O e = s.nb /\ s.O e = b) := by
 rw [split_O hO hb he]
 by_cases h : s.splits b /\ s.O e = b /\ s.isM e = decide (2 * (s.R b - s.B b) <= s.D b - s.B b)
 ·rw [if_pos h]; exact .inr ⟨h.1, rfl, h.2.1⟩
 ·rw [if_neg h]; exact .inl rfl
theorem RunI.stay {s : Pst} {x : Rv} (hI : RunI s x) (hO : s.Ok) {b : Nat} (hb : b < s.nb) (h : ¬ s.splits b) : RunI (s.split b) x := by
 have hn := split_nb_not h
 exact ⟨by rw [hn]; exact hI.ow, by rw [hn]; exact hI.sz, fun y hy => by rw [mem_not hO hb h]; exact hI.szv y (by omega), fun y hy => hI.own y (by omega), hI.nd, fun o bs ho z => by rw [hn]; exact hI.hs o bs ho z, hI.wt, by rw [hn]; exact hI.wtl, hI.wtn, hI.len⟩
theorem RunI.grow {s : Pst} {x x' : Rv} {w w' : World} {B r g p mb o b : Nat} {bs : List Int} (hI : RunI s x) (hO : s.Ok) (hb : b < s.nb) (h : s.splits b) (how : x.ow[b]? = some (o : Int)) (hH : (x.H.map (·.2))[o]? = some bs) (hA : AddAt w w' B r g p mb x x' o b s.nb ((s.mem b).length : Int) (((s.split b).mem s.nb).length : Int) bs) : RunI (s.split b) x' /\ (∀ e, e < s.n -> x'.of ((s.split b).O e) = x.of (s.O e)) := by
 have hnb := split_nb h
 have hsum := split_mem_sum hO hb h
 have hol : o < x.ks.length := by
  have := (List.getElem?_eq_some_iff.1 hH).1
  rw [List.length_map] at this
  rw [<- hI.len]; exact this
 have how' : ∀ y, y < s.nb -> x'.ow[y]? = x.ow[y]? := fun y hy => by rw [hA.ow, List.getElem?_append_left (by rw [hI.ow]; exact hy)]
 have hown : x'.ow[s.nb]? = some (o : Int) := by rw [hA.ow, List.getElem?_append_right (by rw [hI.ow]; exact Nat.le_refl _), hI.ow, Nat.sub_self]; rfl
 have hHs : ∀ (q : Nat) (cs : List Int), (x'.H.map (·.2))[q]? = some cs -> (q = o /\ cs = bs ++ [(s.nb : Int)]) \/ (q ≠ o /\ (x.H.map (·.2))[q]? = some cs) := fun q cs hq => by
  rw [hA.hs] at hq
  by_cases e : q = o
  ·subst e
   rw [List.getElem?_set_self (List.getElem?_eq_some_iff.1 hH).1] at hq
   exact .inl ⟨rfl, (Option.some.inj hq).symm⟩
  ·rw [List.getElem?_set_ne (fun e2 => e e2.symm)] at hq
   exact .inr ⟨e, hq⟩
 have hlen' : x'.H.length = x'.ks.length := by
  have h9 := congrArg List.length hA.hs
  rw [List.length_map, List.length_set, List.length_map] at h9
  rw [h9, hA.ks]; exact hI.len
 have hmem : ∀ (q : Nat), ∀ z, (∃ y : Nat, z = (y : Int) /\ y < s.nb + 1 /\ x'.ow[y]? = some (q : Int)) ↔ (∃ y : Nat, z = (y : Int) /\ y < s.nb /\ x.ow[y]? = some (q : Int)) \/ (q = o /\ z = (s.nb : Int)) := fun q z => by
  constructor
  ·rintro ⟨y, rfl, hy, hq⟩
   rcases Nat.lt_or_ge y s.nb with h1 | h1
   ·rw [how' y h1] at hq; exact .inl ⟨y, rfl, h1, hq⟩
   ·obtain rfl : y = s.nb := by omega
    rw [hown] at hq
    have := Option.some.inj hq
    exact .inr ⟨by omega, rfl⟩
  ·rintro (⟨y, rfl, hy, hq⟩ | ⟨rfl, rfl⟩)
   ·exact ⟨y, rfl, by omega, by rw [how' y hy]; exact hq⟩
   ·exact ⟨s.nb, rfl, by omega, hown⟩
 refine ⟨⟨?_, ?_, fun y hy => ?_, fun y hy => ?_, fun q cs hq => ?_, fun q cs hq z => ?_, fun q cs hq hc => ?_, ?_, fun z hz => ?_, hlen'⟩, fun e he => ?_⟩
 ·rw [hA.ow, List.length_append, hI.ow, hnb]; rfl
 ·rw [hA.sz, List.length_append, List.length_set, hI.sz, hnb]; rfl
 ·rw [hnb] at hy
  rw [hA.sz]
  rcases Nat.lt_or_ge y s.nb with h1 | h1
  ·rw [List.getElem?_append_left (by rw [List.length_set, hI.sz]; exact h1)]
   by_cases e : y = b
   ·subst e
    rw [List.getElem?_set_self (by rw [hI.sz]; exact h1)]
    congr 1
    omega
   ·rw [List.getElem?_set_ne (fun e2 => e e2.symm), hI.szv y h1, split_mem_other hO hb h1 e]
  ·obtain rfl : y = s.nb := by omega
   rw [List.getElem?_append_right (by rw [List.length_set, hI.sz]; exact Nat.le_refl _), List.length_set, hI.sz, Nat.sub_self]; rfl
 ·rw [hnb] at hy
  rw [hA.ks]
  rcases Nat.lt_or_ge y s.nb with h1 | h1
  ·rw [how' y h1]; exact hI.own y h1
  ·obtain rfl : y = s.nb := by omega
   exact ⟨o, hown, hol⟩
 ·rcases hHs q cs hq with ⟨rfl, rfl⟩ | ⟨_, h1⟩
  ·refine List.nodup_append.2 ⟨hI.nd q bs hH, by simp, fun a ha c hc e => ?_⟩
   rw [List.mem_singleton.1 hc] at e
   obtain ⟨y, hy, hy2, _⟩ := (hI.hs q bs hH a).1 ha
   omega
  ·exact hI.nd q cs h1
 ·rw [hnb, hmem]
  rcases hHs q cs hq with ⟨rfl, rfl⟩ | ⟨hne, h1⟩
  ·rw [List.mem_append, List.mem_singleton, hI.hs q bs hH z]
   simp
  ·rw [hI.hs q cs h1 z]
   exact ⟨.inl, fun h2 => h2.elim id fun h3 => absurd h3.1 hne⟩
 ·rw [hA.wt]
  rcases hHs q cs hq with ⟨rfl, rfl⟩ | ⟨_, h1⟩
  ·by_cases h2 : bs.length = 1
   ·rw [if_pos h2]; exact List.mem_append_right _ (List.mem_singleton.2 rfl)
   ·rw [if_neg h2]
    refine hI.wt q bs hH ?_
    simp at hc
    omega
  ·have h3 := hI.wt q cs h1 hc
   split
   ·exact List.mem_append_left _ h3
   ·exact h3
 ·rw [hA.wt, hnb]
  have := hI.wtl
  split
  ·simp; omega
  ·omega
 ·rw [hA.ks]
  rw [hA.wt] at hz
  split at hz
  ·rcases List.mem_append.1 hz with h1 | h1
   ·exact hI.wtn z h1
   ·exact ⟨o, List.mem_singleton.1 h1, hol⟩
  ·exact hI.wtn z hz
 ·rcases split_keep hO hb he with h1 | ⟨_, h1, h2⟩
  ·rw [h1]
   unfold Rv.of
   rw [how' _ (hO.o e he).1]
  ·rw [h1, h2]
   unfold Rv.of
   rw [hown, how]
end
section
open Go.RowKit Go.Maps
attribute [local go_sem ↓] Go.wp_at_zero Go.wp_at_succ
theorem nodup_nat : ∀ (n : Nat) (zs : List Int), zs.Nodup -> (∀ z ∈ zs, 0 <= z /\ z < (n : Int)) -> zs.length <= n
 | 0, zs, _, h => by
   cases zs with
   | nil => simp
   | cons z r => have := h z (by simp); omega
 | n + 1, zs, hd, h => by
   have h1 := nodup_nat n (zs.erase (n : Int)) (hd.erase _) (fun z hz => by
    have hz' := (hd.mem_erase_iff).1 hz
    have := h z hz'.2
    have hne := hz'.1
    omega)
   have h2 : zs.length <= (zs.erase (n : Int)).length + 1 := by
    rw [List.length_erase]
    split <;> omega
   omega
theorem RunI.few {s : Pst} {x : Rv} (hI : RunI s x) {o : Nat} {bs : List Int} (h : (x.H.map (·.2))[o]? = some bs) : bs.length <= s.nb :=
 nodup_nat s.nb bs (hI.nd o bs h) fun z hz => by obtain ⟨b, rfl, hb, _⟩ := (hI.hs o bs h z).1 hz; omega
theorem RunI.heap {s : Pst} {x : Rv} (hI : RunI s x) {b : Nat} (hb : b < s.nb) : ∃ (o k : Nat) (v : Value) (bs : List Int), x.ow[b]? = some (o : Int) /\ x.H[o]? = some (v, bs) /\ x.ks[o]? = some k /\ (x.H.map (·.2))[o]? = some bs := by
 obtain ⟨o, h1, h2⟩ := hI.own b hb
 have h3 : o < x.H.length := by rw [hI.len]; exact h2
 exact ⟨o, x.ks[o], (x.H[o]).1, (x.H[o]).2, h1, List.getElem?_eq_getElem h3, List.getElem?_eq_getElem h2, by rw [List.getElem?_map, List.getElem?_eq_getElem h3]; rfl⟩
structure SpAt (w0 w w' : World) (B r g p mb : Nat) (s s' : Pst) (x x' : Rv) (c' : Nat -> Int) (l : List Nat) : Prop where
 m : RnM w' B r g p mb x'
 pt : Pt w0 w' p c'
 lay : Lay c' s'
 ok : s'.Ok
 bare : s'.bare
 n : s'.n = s.n
 i : RunI s' x'
 eq : ∀ a b, a < s.n -> b < s.n -> (s'.O a = s'.O b ↔ s.O a = s.O b /\ (a ∈ l ↔ b ∈ l))
 of : ∀ e, e < s.n -> x'.of (s'.O e) = x.of (s.O e)
 ks : x'.ks = x.ks
 kp : Kept (fun b => b = p \/ b = r \/ x.foot b) w w'
 ft : ∀ b, x'.foot b -> x.foot b \/ w.heap.size <= b
theorem natI_len' (l : List Nat) : (natI l).length = l.length := by simp [natI]
theorem pt_block {w0 w : World} {p : Nat} {c : Nat -> Int} (h : Pt w0 w p c) : ∃ cs, w.heap[p]? = some (.cells cs 213 (0, 0)) := by
 obtain ⟨cs, hc, _⟩ := Arr.ids h
 exact ⟨cs, hc⟩
theorem RnM.p_foot {w w0 : World} {B r g p mb : Nat} {x : Rv} {c : Nat -> Int} (h : RnM w B r g p mb x) (hP : Pt w0 w p c) : ¬ x.foot p /\ p ≠ r := by
 obtain ⟨cs, hc⟩ := pt_block hP
 refine ⟨h.foot_ne hc (by decide) (by decide), fun e => ?_⟩
 have h1 := h.box
 rw [<- e, hc] at h1
 injection h1 with e1
 injection e1 with _ e2
 exact absurd e2 (by decide)
theorem splitAll_snoc (s : Pst) (l : List Nat) (e : Nat) : s.splitAll (l ++ [e]) = (s.splitAll l).split ((s.splitAll l).O e) := by simp [Pst.splitAll]
theorem parted_of {s : Pst} {l : List Nat} (hO : s.Ok) (hm : ∀ y, y < s.n -> (s.isM y = true ↔ y ∈ l)) (hl : ∀ e ∈ l, e < s.n) : (s.splitAll l).Ok /\ (s.splitAll l).n = s.n /\ (s.splitAll l).bare /\ ∀ p q, p < s.n -> q < s.n -> ((s.splitAll l).O p = (s.splitAll l).O q ↔ s.O p = s.O q /\ (p ∈ l ↔ q ∈ l)) := by
 obtain ⟨k1, k2, k3, k4⟩ := splitAll_ok (l := l) hO hl
 refine ⟨k1, k2, fun y hy => ?_, fun p q hp hq => ?_⟩
 ·rw [k2] at hy
  cases h8 : (s.splitAll l).isM y with
  | false => rfl
  | true =>
    obtain ⟨h9, h10⟩ := (k3 y hy).1 h8
    exact absurd rfl (h10 y ((hm y hy).1 h9))
 ·rw [k4 p q hp hq]
  refine and_congr_right fun e => ?_
  have hpq : s.isM p = s.isM q ↔ (p ∈ l ↔ q ∈ l) := by rw [<- hm p hp, <- hm q hq]; exact Bool.eq_iff_iff
  rw [hpq]
  constructor
  ·intro h
   constructor
   ·intro hpl; exact (h ⟨p, hpl, rfl⟩).1 hpl
   ·intro hql; exact (h ⟨q, hql, e.symm⟩).2 hql
  ·intro h _; exact h
theorem RunI.congr {s t : Pst} {x : Rv} (hI : RunI s x) (h1 : t.n = s.n) (h2 : t.nb = s.nb) (h3 : t.O = s.O) : RunI t x := by
 have hm : ∀ y, t.mem y = s.mem y := fun y => mem_of_O h1 fun e _ => by rw [h3]
 exact ⟨by rw [h2]; exact hI.ow, by rw [h2]; exact hI.sz, fun b hb => by rw [hm]; exact hI.szv b (by omega), fun b hb => hI.own b (by omega), hI.nd, fun o bs ho z => by rw [h2]; exact hI.hs o bs ho z, hI.wt, by rw [h2]; exact hI.wtl, hI.wtn, hI.len⟩
theorem take_next {l : List Nat} {j e : Nat} (h : l[j]? = some e) : l.take (j + 1) = l.take j ++ [e] := by rw [List.take_add_one, h]; rfl
theorem natI_at {l : List Nat} {j e : Nat} (h : l[j]? = some e) : (natI l)[j]? = some (e : Int) := by unfold natI; rw [List.getElem?_map, h]; rfl
structure SpLp (w0 w wr : World) (B r g p mb : Nat) (s1 : Pst) (x x' : Rv) (c' : Nat -> Int) (l : List Nat) : Prop where
 m : RnM wr B r g p mb x'
 pt : Pt w0 wr p c'
 lay : Lay c' (s1.splitAll l)
 i : RunI (s1.splitAll l) x'
 of : ∀ e, e < s1.n -> x'.of ((s1.splitAll l).O e) = x.of (s1.O e)
 ks : x'.ks = x.ks
 kp : Kept (fun b => b = p \/ b = r \/ x.foot b) w wr
 ft : ∀ b, x'.foot b -> x.foot b \/ w.heap.size <= b
set_option linter.unusedSimpArgs false in
set_option maxRecDepth 100000 in
set_option maxHeartbeats 8000000 in
theorem rsplit_any (w0 : World) (B r g p mb Bs : Nat) (x : Rv) (c : Nat -> Int) (s : Pst) (vs : Value) (l : List Nat) (w : World) (hM : RnM w B r g p mb x) (hP : Pt w0 w p c) (hL : Lay c s) (hO : s.Ok) (hn : s.bare) (hI : RunI s x) (hvs : OwnI w Bs vs (natI l)) (hfar : ∀ b, vs.ownBlock = some b -> ¬ x.foot b) (hl : ∀ e ∈ l, e < s.n) (hll : l.length <= 1000000) (hB0 : w0.heap.size <= B) :
 Calls Tryz.prog 95 #[.pointer (some ⟨r, 0, none⟩), vs] w fun e w' => e = .returned (.tuple #[]) /\ ∃ x' c' s', SpAt w0 w w' B r g p mb s s' x x' c' l := by
 obtain ⟨a, cap, rfl⟩ := row_shape hvs
 have hpf := hM.p_foot hP
 have hvr : ∀ b, (Value.slice a (natI l).length cap).ownBlock = some b -> b ≠ p /\ b ≠ r := fun b hb => by
  obtain ⟨cs, hc⟩ := row_cells hvs hb
  refine ⟨fun e => ?_, fun e => own_bk hvs hM.box (by decide) (by rw [<- e]; exact hb)⟩
  obtain ⟨c2, h2⟩ := pt_block hP
  exact own_bk hvs h2 (by decide) (by rw [<- e]; exact hb)
 obtain ⟨N, hN⟩ : ∃ N, N = l.length := ⟨_, rfl⟩
 have hNl : (natI l).length = N := by rw [natI_len', hN]
 rw [hNl] at hvs hvr hfar ⊢
 have H : Hid _ := And.intro hM (And.intro hP (And.intro hL (And.intro hO (And.intro hn (And.intro hI (And.intro hvs (And.intro hfar (And.intro hl (And.intro hpf (And.intro hvr (And.intro hN (And.intro hNl hB0))))))))))))
 rw [<- hN] at hll
 clear hM hP hL hO hn hI hvs hfar hl hpf hvr hN hNl hB0
 go_enter Tryz.func95, Tryz.ntmps95
 go_wp2_with fail
 go_loopg [15] N (fun q iv wr => ∃ (j : Nat) (c' : Nat -> Int) (s' : Pst), q = N - j /\ j <= N /\ iv = .int .i64 j /\ Pt w0 wr p c' /\ Lay c' s' /\ s'.Ok /\ Kept (fun b => b = p) w wr /\ (s'.n = s.n /\ s'.nb = s.nb /\ s'.O = s.O) /\ ∀ y, y < s.n -> (s'.isM y = true ↔ y ∈ l.take j))
 case atStart => exact ⟨0, c, s, rfl, Nat.zero_le _, rfl, H.out.2.1, H.out.2.2.1, H.out.2.2.2.1, Kept.refl _ _, ⟨rfl, rfl, rfl⟩, fun y hy => by rw [H.out.2.2.2.2.1 y hy]; simp⟩
 case round =>
  obtain ⟨j, c', s', rfl, hj, rfl, hPt, hLy, hOk, hKp, hsm, him⟩ := hrel
  by_cases hlt : j < N
  ·have q1 : (j : Int) < (N : Int) := by omega
   have q0 : (0 : Int) <= (j : Int) := by omega
   obtain ⟨e, he⟩ : ∃ e, l[j]? = some e := ⟨l[j]'(by rw [<- H.out.2.2.2.2.2.2.2.2.2.2.2.1]; exact hlt), List.getElem?_eq_getElem _⟩
   have hel := H.out.2.2.2.2.2.2.2.2.1 e (List.mem_of_getElem? he)
   have hOw : OwnI wr Bs (.slice a N cap) (natI l) := own_up H.out.2.2.2.2.2.2.1 hKp fun b hb e9 => (H.out.2.2.2.2.2.2.2.2.2.2.1 b hb).1 e9
   obtain ⟨gs, rfl, hce⟩ := own_num hOw (natI_at he)
   obtain ⟨_, c1, _⟩ := seven_cells ((hKp.block r (t_lt H.out.1.box) (fun e9 => H.out.2.2.2.2.2.2.2.2.2.1.2 e9.symm)).trans H.out.1.box)
   have hMk := pmark_any p c' s' e w0 wr hPt hLy hOk (by rw [hsm.1]; exact hel)
   have HK : Hid _ := And.intro hMk (And.intro hKp (And.intro hsm (And.intro him he)))
   clear hMk hPt hLy hOk hKp hsm him he hOw hel
   go_wp2_with (go_at_call 125; refine Calls.mono HK.out.1 ?_; rintro r1 w2 ⟨rfl, c2, s2, hP2, hL2, hO2, hK2, m1, m2, m3, m4, m5, m6⟩; have HK2 : Hid _ := And.intro hP2 (And.intro hL2 (And.intro hO2 (And.intro hK2 (And.intro m1 (And.intro m2 (And.intro m3 m6)))))); clear hP2 hL2 hO2 hK2 m1 m2 m3 m4 m5 m6)
   go_roundg (N - (j + 1))
   case measure => omega
   case rel =>
    refine ⟨j + 1, c2, s2, rfl, by omega, by go_num, HK2.out.1, HK2.out.2.1, HK2.out.2.2.1, HK.out.2.1.trans HK2.out.2.2.2.1, ⟨HK2.out.2.2.2.2.1.trans HK.out.2.2.1.1, HK2.out.2.2.2.2.2.1.trans HK.out.2.2.1.2.1, HK2.out.2.2.2.2.2.2.1.trans HK.out.2.2.1.2.2⟩, fun y hy => ?_⟩
    rw [HK2.out.2.2.2.2.2.2.2 y (by rw [HK.out.2.2.1.1]; exact hy), take_next HK.out.2.2.2.2, List.mem_append, List.mem_singleton, Bool.or_eq_true, decide_eq_true_eq, HK.out.2.2.2.1 y hy]
    exact or_comm
  ·obtain rfl : j = N := by omega
   have q1 : ¬ (j : Int) < (j : Int) := by omega
   have hM1 := H.out.1.kept hKp (fun e9 => H.out.2.2.2.2.2.2.2.2.2.1.2 e9.symm) (fun b hb e9 => H.out.2.2.2.2.2.2.2.2.2.1.1 (by rw [<- e9]; exact hb))
   have hm1 : ∀ y, y < s'.n -> (s'.isM y = true ↔ y ∈ l) := fun y hy => by rw [him y (by rw [<- hsm.1]; exact hy), H.out.2.2.2.2.2.2.2.2.2.2.2.1, List.take_length]
   have hI1 := H.out.2.2.2.2.2.1.congr hsm.1 hsm.2.1 hsm.2.2
   have hS0 : SpLp w0 w wr B r g p mb s' x x c' (l.take 0) := ⟨hM1, hPt, hLy, hI1, fun e _ => by show x.of (s'.O e) = x.of (s'.O e); rfl, rfl, hKp.mono fun b _ e9 => .inl e9, fun b hb => .inl hb⟩
   have H1 : Hid _ := And.intro hS0 (And.intro hOk (And.intro hm1 hsm))
   clear hPt hLy hOk hKp hsm him hM1 hm1 hI1 hS0
   go_wp2_with fail
   go_loopg [28] j (fun q iv wr => ∃ (i : Nat) (x' : Rv) (c' : Nat -> Int), q = j - i /\ i <= j /\ iv = .int .i64 i /\ SpLp w0 w wr B r g p mb s' x x' c' (l.take i))
   case atStart => exact ⟨0, x, c', rfl, Nat.zero_le _, rfl, H1.out.1⟩
   case round =>
    obtain ⟨i, x', c2, rfl, hi, rfl, hS⟩ := hrel
    have hlt' : ∀ e ∈ l, e < s'.n := fun e he => by rw [H1.out.2.2.2.1]; exact H.out.2.2.2.2.2.2.2.2.1 e he
    by_cases hlt2 : i < j
    ·have q2 : (i : Int) < (j : Int) := by omega
     have q0 : (0 : Int) <= (i : Int) := by omega
     obtain ⟨e, he⟩ : ∃ e, l[i]? = some e := ⟨l[i]'(by rw [<- H.out.2.2.2.2.2.2.2.2.2.2.2.1]; exact hlt2), List.getElem?_eq_getElem _⟩
     obtain ⟨sk1, sk2, _, _⟩ := splitAll_ok (l := l.take i) H1.out.2.1 (fun e he => hlt' e (List.mem_of_mem_take he))
     have hel : e < (s'.splitAll (l.take i)).n := by rw [sk2]; exact hlt' e (List.mem_of_getElem? he)
     have hOw : OwnI wr Bs (.slice a j cap) (natI l) := own_up H.out.2.2.2.2.2.2.1 hS.kp fun b hb e9 => by
      rcases e9 with e9 | e9 | e9
      ·exact (H.out.2.2.2.2.2.2.2.2.2.2.1 b hb).1 e9
      ·exact (H.out.2.2.2.2.2.2.2.2.2.2.1 b hb).2 e9
      ·exact H.out.2.2.2.2.2.2.2.1 b hb e9
     obtain ⟨gs, rfl, hce⟩ := own_num hOw (natI_at he)
     obtain ⟨_, c1, _⟩ := seven_cells hS.m.box
     obtain ⟨s2, hs2⟩ : ∃ s2, s2 = s'.splitAll (l.take i) := ⟨_, rfl⟩
     have hLy := hS.lay
     have hS0i := hS.i
     rw [<- hs2] at sk1 sk2 hel hLy
     have hb := (sk1.o e hel).1
     have hBk := block_ok p c2 s2 e w0 wr hS.pt hLy sk1.n1 hel
     have hSp := split_any p c2 s2 (s2.O e) w0 wr hS.pt hLy sk1 hb
     obtain ⟨b, hbe⟩ : ∃ b, b = s2.O e := ⟨_, rfl⟩
     rw [<- hbe] at hb hBk hSp
     have hpf2 := hS.m.p_foot hS.pt
     have hfew := sk1.few
     have hn1 := sk1.n1
     by_cases hsp : s2.splits b
     ·rw [if_pos hsp, decide_eq_true hsp] at hSp
      rw [<- hs2] at hS0i
      obtain ⟨o, k, v, bs, how, hH, hks, hHm⟩ := hS0i.heap hb
      have hbl := hS0i.few hHm
      have hAd := fun (c3 : Nat -> Int) (w3 : World) (h1 : Pt w0 w3 p c3) (h2 : Lay c3 (s2.split b)) (h3 : Kept (fun i => i = p) wr w3) => radd_any w0 B r g p mb x' c3 (s2.split b) s2.nb b o k ((s2.mem b).length : Int) v bs w3 (hS.m.kept h3 (fun e9 => hpf2.2 e9.symm) (fun b hb e9 => hpf2.1 (by rw [<- e9]; exact hb))) h1 h2 (split_ok sk1 hb).1 (by rw [split_nb hsp]; omega) how (hS0i.szv b hb) hH hks (by rw [hS0i.ow]; omega) (by rw [hS0i.sz]; omega) (by omega) (by have := hS0i.wtl; omega) (by have := mem_len sk1 hb; have := sk1.iv b hb; omega)
      have HS : Hid _ := And.intro hS (And.intro sk1 (And.intro hBk (And.intro hSp (And.intro hs2 (And.intro hbe (And.intro hb (And.intro he (And.intro hel (And.intro sk2 (And.intro hAd (And.intro how (And.intro hHm (And.intro hpf2 (And.intro hsp hS0i))))))))))))))
      clear hS sk1 hBk hSp hs2 hbe hb he hel sk2 hLy hOw hlt' hAd how hHm hH hks hbl hpf2 hfew hn1 hsp hS0i
      go_wp2_with (first
       | (go_at_call 126; refine Calls.mono HS.out.2.2.1 ?_; rintro r1 w2 ⟨rfl, hw2⟩; obtain rfl := hw2.symm; clear hw2)
       | (go_at_call 127; refine Calls.mono HS.out.2.2.2.1 ?_; rintro r1 w3 ⟨rfl, c3, hP3, hL3, hK3⟩; have H3 : Hid _ := And.intro hP3 (And.intro hL3 hK3); clear hP3 hL3 hK3)
       | (go_at_call 128; refine Calls.mono (HS.out.2.2.2.2.2.2.2.2.2.2.1 c3 w3 H3.out.1 H3.out.2.1 H3.out.2.2) ?_; rintro r1 w4 ⟨rfl, x2, hA4⟩; have H4 : Hid _ := And.intro hA4 trivial; clear hA4))
      go_roundg (j - (i + 1))
      case measure => omega
      case rel =>
       obtain ⟨hS, sk1, _, _, hs2, hbe, hb, he, hel, sk2, _, how, hHm, hpf2, hsp, hS0i⟩ := HS.out
       obtain ⟨hP3, hL3, hK3⟩ := H3.out
       have hA := H4.out.1
       have hM3 := hS.m.kept hK3 (fun e9 => hpf2.2 e9.symm) (fun b hb e9 => hpf2.1 (by rw [<- e9]; exact hb))
       have hG := hS0i.grow sk1 hb hsp how hHm hA
       refine ⟨i + 1, x2, c3, rfl, by omega, by go_num, ⟨hA.m, hP3.kept hA.gw.kp (fun b hb => ?_), ?_, ?_, fun e1 he1 => ?_, hA.ks.trans hS.ks, (hS.kp.trans (hK3.mono fun b _ e9 => .inl e9)).trans2 hA.gw.kp (fun b hb => ?_), fun b hb => ?_⟩⟩
       ·rcases hb with rfl | hb
        ·exact ⟨Nat.le_trans H.out.2.2.2.2.2.2.2.2.2.2.2.2.2 hM3.up, fun e9 => hpf2.2 e9.symm⟩
        ·exact ⟨Nat.le_trans H.out.2.2.2.2.2.2.2.2.2.2.2.2.2 (hM3.foot_lt hb).1, fun e9 => hpf2.1 (by rw [<- e9]; exact hb)⟩
       ·rw [take_next he, splitAll_snoc, <- hs2, <- hbe]; exact hL3
       ·rw [take_next he, splitAll_snoc, <- hs2, <- hbe]; exact hG.1
       ·rw [take_next he, splitAll_snoc, <- hs2, <- hbe, hG.2 e1 (by rw [sk2]; exact he1), hs2]; exact hS.of e1 he1
       ·rcases hb with hb | hb
        ·exact .inl (.inr (.inl hb))
        ·exact (hS.ft b hb).imp (fun h => .inr (.inr h)) id
       ·rcases hA.gw.ft b hb with h1 | h1
        ·exact hS.ft b h1
        ·have := hS.kp.size; have := hK3.size; exact .inr (by omega)
     ·rw [if_neg hsp, decide_eq_false hsp] at hSp
      rw [<- hs2] at hS0i
      have HS : Hid _ := And.intro hS (And.intro sk1 (And.intro hBk (And.intro hSp (And.intro hs2 (And.intro hbe (And.intro hb (And.intro he (And.intro hel (And.intro sk2 (And.intro hpf2 (And.intro hsp hS0i)))))))))))
      clear hS sk1 hBk hSp hs2 hbe hb he hel sk2 hLy hOw hlt' hpf2 hfew hn1 hsp hS0i
      go_wp2_with (first
       | (go_at_call 126; refine Calls.mono HS.out.2.2.1 ?_; rintro r1 w2 ⟨rfl, hw2⟩; obtain rfl := hw2.symm; clear hw2)
       | (go_at_call 127; refine Calls.mono HS.out.2.2.2.1 ?_; rintro r1 w3 ⟨rfl, c3, hP3, hL3, hK3⟩; have H3 : Hid _ := And.intro hP3 (And.intro hL3 hK3); clear hP3 hL3 hK3))
      go_roundg (j - (i + 1))
      case measure => omega
      case rel =>
       obtain ⟨hS, sk1, _, _, hs2, hbe, hb, he, hel, sk2, hpf2, hsp, hS0i⟩ := HS.out
       obtain ⟨hP3, hL3, hK3⟩ := H3.out
       have hM3 := hS.m.kept hK3 (fun e9 => hpf2.2 e9.symm) (fun b hb e9 => hpf2.1 (by rw [<- e9]; exact hb))
       refine ⟨i + 1, x', c3, rfl, by omega, by go_num, ⟨hM3, hP3, ?_, ?_, fun e1 he1 => ?_, hS.ks, hS.kp.trans (hK3.mono fun b _ e9 => .inl e9), hS.ft⟩⟩
       ·rw [take_next he, splitAll_snoc, <- hs2, <- hbe]; exact hL3
       ·rw [take_next he, splitAll_snoc, <- hs2, <- hbe]; exact hS0i.stay sk1 hb hsp
       ·rw [take_next he, splitAll_snoc, <- hs2, <- hbe, clear_O s2 b hsp, hs2]; exact hS.of e1 he1
    ·obtain rfl : i = j := by omega
     have q2 : ¬ (i : Int) < (i : Int) := by omega
     have HS : Hid _ := And.intro hS hlt'
     clear hS hlt'
     go_wp2_with fail
     go_end0
     have e9 : l.take i = l := by rw [H.out.2.2.2.2.2.2.2.2.2.2.2.1]; exact List.take_length
     have hS := HS.out.1
     rw [e9] at hS
     obtain ⟨k1, k2, k3, k4⟩ := parted_of H1.out.2.1 H1.out.2.2.1 HS.out.2
     have hn1 := H1.out.2.2.2.1
     exact ⟨rfl, x', c2, _, hS.m, hS.pt, hS.lay, k1, k3, k2.trans hn1, hS.i, fun a b ha hb => by rw [k4 a b (by rw [hn1]; exact ha) (by rw [hn1]; exact hb), H1.out.2.2.2.2.2], fun e he => by rw [hS.of e (by rw [hn1]; exact he), H1.out.2.2.2.2.2], hS.ks, hS.kp, hS.ft⟩
end
section
open Go.RowKit Go.Maps
attribute [local go_sem ↓] Go.wp_at_zero Go.wp_at_succ
def Asks (f : Nat) (bd : Array Value) (P : Int -> Bool) (zs : List Int) (S : World -> Prop) : Prop := ∀ (z : Int) (W : World), z ∈ zs -> S W -> Calls Tryz.prog f (#[.int .i64 z] ++ bd) W fun r w' => r = .returned (.bool (P z)) /\ Below W.heap.size W w'
theorem OwnI.put2 {w : World} {B g n cap : Nat} {zs : List Int} (h : OwnI w B (.slice (some ⟨g, 0, none⟩) n cap) zs) (hn : n = zs.length) (j : Nat) (u : Int) : OwnI (w.setCell ⟨g, j, none⟩ (.int .i64 u)) B (.slice (some ⟨g, 0, none⟩) n cap) (zs.set j u) := by
 subst hn
 have h1 := (World.ownsRow.stored h j (.int .i64 u)).1
 unfold OwnI
 rw [List.length_set, show iC (zs.set j u) = (iC zs).set j (.int .i64 u) by simp [iC, List.map_set]]
 exact h1
structure Left (P : Int -> Bool) (zs ys : List Int) (i j : Nat) : Prop where
 len : ys.length = zs.length
 ij : i < j
 jn : j <= zs.length
 head : ys.take i = (zs.take j).filter fun z => !P z
 tail : ys.drop j = zs.drop j
theorem take_snoc {zs : List Int} {j : Nat} {z : Int} (h : zs[j]? = some z) : zs.take (j + 1) = zs.take j ++ [z] := by rw [List.take_add_one, h]; rfl
theorem Left.skip {P : Int -> Bool} {zs ys : List Int} {i j : Nat} {z : Int} (h : Left P zs ys i j) (hz : zs[j]? = some z) (hP : P z = true) : Left P zs ys i (j + 1) := by
 have hl := (List.getElem?_eq_some_iff.1 hz).1
 refine ⟨h.len, by have := h.ij; omega, hl, ?_, ?_⟩
 ·rw [take_snoc hz, List.filter_append, <- h.head]; simp [hP]
 ·rw [<- List.drop_drop (i := 1) (j := j), h.tail, List.drop_drop]
theorem Left.keep {P : Int -> Bool} {zs ys : List Int} {i j : Nat} {z : Int} (h : Left P zs ys i j) (hz : zs[j]? = some z) (hP : P z = false) : Left P zs (ys.set i z) (i + 1) (j + 1) := by
 have hl := (List.getElem?_eq_some_iff.1 hz).1
 have hij := h.ij
 have hyl := h.len
 refine ⟨by rw [List.length_set]; exact h.len, by omega, hl, ?_, ?_⟩
 ·rw [take_snoc hz, List.filter_append, <- h.head, List.take_add_one, List.getElem?_set_self (by omega), List.take_set_of_le (Nat.le_refl _)]
  simp [hP]
 ·rw [List.drop_set_of_lt (by omega), <- List.drop_drop (i := 1) (j := j), h.tail, List.drop_drop]
theorem Left.at {P : Int -> Bool} {zs ys : List Int} {i j : Nat} {z : Int} (h : Left P zs ys i j) (hz : zs[j]? = some z) : ys[j]? = some z := by
 have h1 : (ys.drop j)[0]? = (zs.drop j)[0]? := by rw [h.tail]
 rw [List.getElem?_drop, List.getElem?_drop] at h1
 exact h1.trans hz
theorem clear_ints {w : World} {B g n cap i : Nat} {ys : List Int} (h : OwnI w B (.slice (some ⟨g, 0, none⟩) n cap) ys) (hn : n = ys.length) (hi : i < n) :
 ∃ us, (∀ ty, (Builtin.clear_ #[39] ty #[.slice (some ⟨g, i, none⟩) (n - i) (cap - i)]).run Tryz.prog w = .ok (.tuple #[]) (w.setCells g i us)) /\ OwnI (w.setCells g i us) B (.slice (some ⟨g, 0, none⟩) i cap) (ys.take i) /\ Kept (fun b => b = g) w (w.setCells g i us) := by
 subst hn
 obtain ⟨us, hus⟩ : ∃ us, us = (Builtin.zeroCells (Value.int .i64 0).cells (ys.length - i)).toList := ⟨_, rfl⟩
 have hlen : us.length = ys.length - i := by rw [hus]; simp [Builtin.zeroCells, Value.cells]
 have hone : ∀ v ∈ us, v.oneCell' = true := by
  intro v hv
  rw [hus] at hv
  simp [Builtin.zeroCells, Value.cells] at hv
  obtain ⟨a, _, rfl⟩ := hv
  have e9 : a % 1 = 0 := Nat.mod_one a
  rw [e9]; rfl
 have hst := run_storeCells_cells (P := Tryz.prog) g i us 0 w (fun j hj => by
  rw [Nat.add_zero, World.ownsRow.cellAt h (i + j) (by omega)]
  rw [List.getElem?_eq_getElem (by rw [iC_length]; omega)]; rfl) (fun j hj => World.ownsRow.frozenAt h _) hone
 simp only [Nat.add_zero] at hst
 have hkept : ∀ (us : List Value) (o : Nat) (w : World), Kept (fun b => b = g) w (w.setCells g o us) := fun us => by
  induction us with
  | nil => intro o w; exact Kept.refl _ _
  | cons u r ih => intro o w; exact (Kept.setCell w g o u).trans (ih (o + 1) _)
 have hblk : ∀ (us : List Value) (o : Nat) (w : World) (cur : Array Value), i <= o -> w.heap[g]? = some (.cells cur 3 (0, 0)) -> ∃ cur', (w.setCells g o us).heap[g]? = some (.cells cur' 3 (0, 0)) /\ cur'.size = cur.size /\ cur'.toList.take i = cur.toList.take i := fun us => by
  induction us with
  | nil => intro o w cur _ hc; exact ⟨cur, hc, rfl, rfl⟩
  | cons u r ih =>
    intro o w cur ho hc
    obtain ⟨c2, h1, h2, h3⟩ := ih (o + 1) (w.setCell ⟨g, o, none⟩ u) _ (by omega) (heap_setCell_same w g o cur _ u hc)
    refine ⟨c2, h1, by rw [h2]; simp, ?_⟩
    rw [h3, Array.toList_setIfInBounds, List.take_set_of_le ho]
 refine ⟨us, fun ty => ?_, ?_, hkept us i w⟩
 ·obtain ⟨k, hk⟩ : ∃ k, ys.length - i = k + 1 := ⟨ys.length - i - 1, by omega⟩
  rw [hk] at hus ⊢
  simp [Builtin.clear_, run_underlying Tryz.underlying39, <- hus, hst]
 ·rcases h.2 with ⟨e, _⟩ | ⟨g', cap', cur, e, hB, hg, hn2, hm, hs, ht⟩
  ·cases e
  ·cases e
   obtain ⟨c2, h1, h2, h3⟩ := hblk us i w cur (Nat.le_refl _) hg
   have hil : (ys.take i).length = i := by rw [List.length_take]; omega
   refine ⟨by rw [iC_length], .inr ⟨g, cap, c2, by rw [hil], hB, h1, by omega, hm, by omega, ?_⟩⟩
   rw [hil, Nat.mul_one, h3]
   have h9 : (cur.toList.take (ys.length * 1)).take i = (iC ys).take i := by rw [ht]
   rw [List.take_take, Nat.mul_one, Nat.min_eq_left (by omega)] at h9
   rw [h9]
   simp [iC, List.map_take]
theorem del_bel {a b c : World} (h : Below b.heap.size b c) (k : Below a.heap.size a b) : Below a.heap.size a c := k.trans (h.mono k.size)
set_option maxRecDepth 100000 in
set_option maxHeartbeats 4000000 in
theorem indexFunc1 (f : Nat) (F : Nat -> Prop) (b0 : Value) (P : Int -> Bool) (v : Value) (zs : List Int) (w : World) (hv : HasI w v zs) (hn : zs.length <= 1000000) (hE : Enters Tryz.prog f) (hA : Asks f #[b0] P zs fun W => Kept F w W) :
 Calls Tryz.prog 129 #[v, .func (.func f) #[] #[b0]] w fun r w' => Below w.heap.size w w' /\ ((∃ i : Nat, r = .returned (.int .i64 i) /\ (∃ z, zs[i]? = some z /\ P z = true) /\ ∀ z ∈ zs.take i, P z = false) \/ (r = .returned (.int .i64 (-1)) /\ ∀ z ∈ zs, P z = false)) := by
 unfold Enters at hE
 obtain ⟨ao, cap, rfl, hc⟩ := hv
 obtain ⟨n, hN⟩ : ∃ n, n = zs.length := ⟨_, rfl⟩
 rw [<- hN] at hn ⊢
 have H : Hid _ := And.intro hc (And.intro hA hN)
 clear hc hA hN
 go_enter Tryz.func129, Tryz.ntmps129
 go_wp2_with fail
 go_loopg [8] n (fun q iv wr => ∃ j : Nat, q = n - j /\ j <= n /\ iv = .int .i64 j /\ Below w.heap.size w wr /\ Hid (∀ z ∈ zs.take j, P z = false))
 case atStart => exact ⟨0, rfl, Nat.zero_le _, rfl, Below.refl _ _, (fun z hz => by simp at hz : ∀ z ∈ zs.take 0, P z = false)⟩
 case round =>
  obtain ⟨j, rfl, hj, rfl, hb, hP⟩ := hrel
  by_cases hlt : j < n
  ·have q0 : (0 : Int) <= (j : Int) := by omega
   have q1 : (j : Int) < (n : Int) := by omega
   obtain ⟨z, hz⟩ : ∃ z, zs[j]? = some z := ⟨zs[j]'(by have := H.out.2.2; omega), List.getElem?_eq_getElem _⟩
   obtain ⟨ad, rfl, hce⟩ := H.out.1 j z hz
   have hcw := (hb.cell (World.block_lt_of_cell? w _ hce)).trans hce
   have hAs := H.out.2.1 z wr (List.mem_of_getElem? hz) (Kept.of_below hb)
   have HZ : Hid _ := And.intro hz (And.intro hb hAs)
   clear hz hb hAs hce
   cases hp : P z with
   | true =>
     have HP : Hid (P z = true) := hp
     rw [hp] at HZ
     clear hp
     go_wp2_with (go_at_fn f; refine Calls.mono HZ.out.2.2 ?_; rintro r w2 ⟨rfl, hb2⟩; have H2 : Hid _ := And.intro hb2 trivial; clear hb2)
     go_ret
     exact ⟨del_bel H2.out.1 HZ.out.2.1, .inl ⟨j, rfl, ⟨z, HZ.out.1, HP.out⟩, hP.out⟩⟩
   | false =>
     have HP : Hid (P z = false) := hp
     rw [hp] at HZ
     clear hp
     go_wp2_with (go_at_fn f; refine Calls.mono HZ.out.2.2 ?_; rintro r w2 ⟨rfl, hb2⟩; have H2 : Hid _ := And.intro hb2 trivial; clear hb2)
     go_roundg (n - (j + 1))
     case measure => omega
     case rel =>
      refine ⟨j + 1, rfl, by omega, by go_num, del_bel H2.out.1 HZ.out.2.1, (fun y hy => ?_ : ∀ y ∈ zs.take (j + 1), P y = false)⟩
      rw [take_snoc HZ.out.1] at hy
      rcases List.mem_append.1 hy with h1 | h1
      ·exact hP.out y h1
      ·rw [List.mem_singleton.1 h1]; exact HP.out
  ·obtain rfl : j = n := by omega
   have q1 : ¬ (j : Int) < (j : Int) := by omega
   have HZ : Hid _ := And.intro hb trivial
   clear hb
   go_wp2_with fail
   go_ret
   refine ⟨HZ.out.1, .inr ⟨rfl, fun z hz => hP.out z ?_⟩⟩
   rw [H.out.2.2, List.take_length]; exact hz
set_option linter.unusedSimpArgs false in
set_option maxRecDepth 100000 in
set_option maxHeartbeats 8000000 in
theorem deleteFunc1 (f B : Nat) (b0 : Value) (P : Int -> Bool) (v : Value) (zs : List Int) (w : World) (hv : OwnI w B v zs) (hn : zs.length <= 1000000) (hE : Enters Tryz.prog f) (hA : Asks f #[b0] P zs fun W => Kept (fun b => v.ownBlock = some b) w W) :
 Calls Tryz.prog 96 #[v, .func (.func f) #[] #[b0]] w fun r w' => ∃ v', r = .returned v' /\ OwnI w' B v' (zs.filter fun z => !P z) /\ v'.ownBlock = v.ownBlock /\ Kept (fun b => v.ownBlock = some b) w w' := by
 have hI := indexFunc1 f (fun b => v.ownBlock = some b) b0 P v zs w hv.has hn hE hA
 unfold Enters at hE
 obtain ⟨n, hN⟩ : ∃ n, n = zs.length := ⟨_, rfl⟩
 obtain ⟨ao, cap, rfl⟩ := row_shape hv
 rw [<- hN] at hn hI hv hA ⊢
 have H : Hid _ := And.intro hv (And.intro hA (And.intro hI (And.intro hN trivial)))
 clear hv hI hN hA
 go_enter Tryz.func96, Tryz.ntmps96
 go_upto_region 2 with (go_at_call 129; refine Calls.mono H.out.2.2.1 ?_; rintro r w1 ⟨hb1, hr1⟩; rcases hr1 with ⟨i, rfl, hz, hf⟩ | ⟨rfl, hall⟩)
 ·obtain ⟨z, hz, hPz⟩ := hz
  have hil : i < n := by have := (List.getElem?_eq_some_iff.1 hz).1; have := H.out.2.2.2.1; omega
  have hO1 : OwnI w1 B (.slice ao n cap) zs := trow_at H.out.1 fun b e => hb1.block b (H.out.1.lt b e).2
  obtain ⟨g0, rfl, _⟩ := own_num hO1 hz
  obtain ⟨gs, rfl⟩ : ∃ gs, gs = g0 := ⟨_, rfl⟩
  have hL0 : Left P zs zs i (i + 1) := ⟨rfl, by omega, by have := H.out.2.2.2.1; omega, by
   rw [take_snoc hz, List.filter_append]
   have h1 : (zs.take i).filter (fun z => !P z) = zs.take i := List.filter_eq_self.2 fun y hy => by rw [hf y hy]; rfl
   rw [h1]; simp [hPz], rfl⟩
  have q9 : ((i : Int) == -1) = false := beq_eq_false_iff_ne.2 (by omega)
  have q8 : IntKind.i64.wrap ((i : Int) + 1) = (i : Int) + 1 := by rw [IntKind.wrap_i64]; omega
  have H1 : Hid _ := And.intro hO1 (And.intro hL0 (Kept.of_below (F := fun b => b = gs) hb1))
  clear hz hPz hf hO1 hL0 hb1
  go_wp2_with fail
  go_loopg [5, 6] (n - (i + 1)) (fun q iv jv wr => ∃ (i j : Nat) (ys : List Int), q = n - j /\ iv = .int .i64 i /\ jv = .int .i64 j /\ OwnI wr B (.slice (some ⟨gs, 0, none⟩) n cap) ys /\ Left P zs ys i j /\ Kept (fun b => b = gs) w wr)
  case atStart => exact ⟨i, i + 1, zs, rfl, rfl, by go_num, H1.out.1, H1.out.2.1, H1.out.2.2⟩
  case round =>
   obtain ⟨i2, j, ys, rfl, rfl, rfl, hOw, hLf, hKp⟩ := hrel
   have hjn : j <= n := by have := hLf.jn; have := H.out.2.2.2.1; omega
   have hij := hLf.ij
   have hyl : n = ys.length := by rw [hLf.len]; exact H.out.2.2.2.1
   clear q9 q8
   by_cases hlt : j < n
   ·have q0 : (0 : Int) <= (j : Int) := by omega
    have q1 : (j : Int) < (n : Int) := by omega
    have q2 : (0 : Int) <= (i2 : Int) := by omega
    have q3 : (i2 : Int) < (n : Int) := by omega
    obtain ⟨z, hz⟩ : ∃ z, zs[j]? = some z := ⟨zs[j]'(by have := H.out.2.2.2.1; omega), List.getElem?_eq_getElem _⟩
    have hce := hOw.cell (hLf.at hz)
    have hAs := H.out.2.1 z wr (List.mem_of_getElem? hz) (hKp.mono fun b _ e => by rw [e]; rfl)
    have HZ : Hid _ := And.intro hz (And.intro hOw (And.intro hLf (And.intro hKp (And.intro hAs hyl))))
    clear hz hOw hLf hKp hAs hyl
    cases hp : P z with
    | true =>
      have HP : Hid (P z = true) := hp
      rw [hp] at HZ
      clear hp
      go_wp2_with (go_at_fn f; refine Calls.mono HZ.out.2.2.2.2.1 ?_; rintro r w2 ⟨rfl, hb2⟩; have H2 : Hid _ := And.intro hb2 trivial; clear hb2)
      go_roundg (n - (j + 1))
      case measure => omega
      case rel => exact ⟨i2, j + 1, ys, rfl, rfl, by go_num, trow_at HZ.out.2.1 fun b e => H2.out.1.block b (HZ.out.2.1.lt b e).2, HZ.out.2.2.1.skip HZ.out.1 HP.out, HZ.out.2.2.2.1.trans (Kept.of_below H2.out.1)⟩
    | false =>
      have HP : Hid (P z = false) := hp
      rw [hp] at HZ
      clear hp
      have q4 : IntKind.i64.wrap ((i2 : Int) + 1) = (i2 : Int) + 1 := by rw [IntKind.wrap_i64]; omega
      go_wp2_with (go_at_fn f; refine Calls.mono HZ.out.2.2.2.2.1 ?_; rintro r w2 ⟨rfl, hb2⟩; have hO2 : OwnI w2 B (.slice (some ⟨gs, 0, none⟩) n cap) ys := (trow_at HZ.out.2.1 fun b e => hb2.block b (HZ.out.2.1.lt b e).2); have hc2 := hO2.cell (show ys[i2]? = some (ys[i2]'(by have := HZ.out.2.2.2.2.2; omega)) from List.getElem?_eq_getElem _); have hf2 : w2.frozen? ⟨gs, i2, none⟩ = false := (by have h9 := hO2; unfold OwnI at h9; rw [<- HZ.out.2.2.2.2.2] at h9; exact h9.frozenAt i2); have H2 : Hid _ := And.intro hb2 hO2; clear hb2 hO2)
      go_roundg (n - (j + 1))
      case measure => omega
      case rel => exact ⟨i2 + 1, j + 1, ys.set i2 z, rfl, by go_num, by go_num, H2.out.2.put2 HZ.out.2.2.2.2.2 i2 z, HZ.out.2.2.1.keep HZ.out.1 HP.out, (HZ.out.2.2.2.1.trans (Kept.of_below H2.out.1)).trans (Kept.setCell _ _ _ _)⟩
   ·obtain rfl : j = n := by omega
    have q1 : ¬ (j : Int) < (j : Int) := by omega
    have hcap : j <= cap := by
     rcases hOw.2 with ⟨e, _⟩ | ⟨_, _, _, e, _, _, h9, _⟩
     ·cases e
     ·cases e; omega
    obtain ⟨us, hcl, hOc, hKc⟩ := clear_ints hOw hyl (i := i2) (by omega)
    have r0 : (0 : Int) <= (i2 : Int) := by omega
    have r1 : (i2 : Int) <= (j : Int) := by omega
    have r2 : (i2 : Int) <= (cap : Int) := by omega
    have r3 : ¬ cap = i2 := by omega
    have HP : Hid _ := And.intro hOc (And.intro hKc (And.intro hLf hKp))
    clear hOc hKc hLf hKp hOw hyl
    go_wp2_with fail
    go_ret
    refine ⟨_, rfl, ?_, rfl, (HP.out.2.2.2.trans HP.out.2.1).mono fun b _ e => by rw [e]; rfl⟩
    have h9 := HP.out.1
    rw [HP.out.2.2.1.head, H.out.2.2.2.1, List.take_length] at h9
    exact h9
 ·have q9 : True := trivial
  have H1 : Hid _ := And.intro hb1 hall
  clear hb1 hall
  go_wp2_with fail
  go_ret
  refine ⟨_, rfl, ?_, rfl, Kept.of_below H1.out.1⟩
  rw [List.filter_eq_self.2 (fun y hy => by rw [H1.out.2 y hy]; rfl)]
  have h9 : OwnI w1 B (.slice ao n cap) zs := trow_at H.out.1 fun b e => H1.out.1.block b (H.out.1.lt b e).2
  exact h9
set_option maxRecDepth 100000 in
set_option maxHeartbeats 4000000 in
theorem indexFunc3 (f : Nat) (F : Nat -> Prop) (b0 b1 b2 : Value) (P : Int -> Bool) (v : Value) (zs : List Int) (w : World) (hv : HasI w v zs) (hn : zs.length <= 1000000) (hE : Enters Tryz.prog f) (hA : Asks f #[b0, b1, b2] P zs fun W => Kept F w W) :
 Calls Tryz.prog 129 #[v, .func (.func f) #[] #[b0, b1, b2]] w fun r w' => Below w.heap.size w w' /\ ((∃ i : Nat, r = .returned (.int .i64 i) /\ (∃ z, zs[i]? = some z /\ P z = true) /\ ∀ z ∈ zs.take i, P z = false) \/ (r = .returned (.int .i64 (-1)) /\ ∀ z ∈ zs, P z = false)) := by
 unfold Enters at hE
 obtain ⟨ao, cap, rfl, hc⟩ := hv
 obtain ⟨n, hN⟩ : ∃ n, n = zs.length := ⟨_, rfl⟩
 rw [<- hN] at hn ⊢
 have H : Hid _ := And.intro hc (And.intro hA hN)
 clear hc hA hN
 go_enter Tryz.func129, Tryz.ntmps129
 go_wp2_with fail
 go_loopg [8] n (fun q iv wr => ∃ j : Nat, q = n - j /\ j <= n /\ iv = .int .i64 j /\ Below w.heap.size w wr /\ Hid (∀ z ∈ zs.take j, P z = false))
 case atStart => exact ⟨0, rfl, Nat.zero_le _, rfl, Below.refl _ _, (fun z hz => by simp at hz : ∀ z ∈ zs.take 0, P z = false)⟩
 case round =>
  obtain ⟨j, rfl, hj, rfl, hb, hP⟩ := hrel
  by_cases hlt : j < n
  ·have q0 : (0 : Int) <= (j : Int) := by omega
   have q1 : (j : Int) < (n : Int) := by omega
   obtain ⟨z, hz⟩ : ∃ z, zs[j]? = some z := ⟨zs[j]'(by have := H.out.2.2; omega), List.getElem?_eq_getElem _⟩
   obtain ⟨ad, rfl, hce⟩ := H.out.1 j z hz
   have hcw := (hb.cell (World.block_lt_of_cell? w _ hce)).trans hce
   have hAs := H.out.2.1 z wr (List.mem_of_getElem? hz) (Kept.of_below hb)
   have HZ : Hid _ := And.intro hz (And.intro hb hAs)
   clear hz hb hAs hce
   cases hp : P z with
   | true =>
     have HP : Hid (P z = true) := hp
     rw [hp] at HZ
     clear hp
     go_wp2_with (go_at_fn f; refine Calls.mono HZ.out.2.2 ?_; rintro r w2 ⟨rfl, hb2⟩; have H2 : Hid _ := And.intro hb2 trivial; clear hb2)
     go_ret
     exact ⟨del_bel H2.out.1 HZ.out.2.1, .inl ⟨j, rfl, ⟨z, HZ.out.1, HP.out⟩, hP.out⟩⟩
   | false =>
     have HP : Hid (P z = false) := hp
     rw [hp] at HZ
     clear hp
     go_wp2_with (go_at_fn f; refine Calls.mono HZ.out.2.2 ?_; rintro r w2 ⟨rfl, hb2⟩; have H2 : Hid _ := And.intro hb2 trivial; clear hb2)
     go_roundg (n - (j + 1))
     case measure => omega
     case rel =>
      refine ⟨j + 1, rfl, by omega, by go_num, del_bel H2.out.1 HZ.out.2.1, (fun y hy => ?_ : ∀ y ∈ zs.take (j + 1), P y = false)⟩
      rw [take_snoc HZ.out.1] at hy
      rcases List.mem_append.1 hy with h1 | h1
      ·exact hP.out y h1
      ·rw [List.mem_singleton.1 h1]; exact HP.out
  ·obtain rfl : j = n := by omega
   have q1 : ¬ (j : Int) < (j : Int) := by omega
   have HZ : Hid _ := And.intro hb trivial
   clear hb
   go_wp2_with fail
   go_ret
   refine ⟨HZ.out.1, .inr ⟨rfl, fun z hz => hP.out z ?_⟩⟩
   rw [H.out.2.2, List.take_length]; exact hz
set_option linter.unusedSimpArgs false in
set_option maxRecDepth 100000 in
set_option maxHeartbeats 8000000 in
theorem deleteFunc3 (f B : Nat) (b0 b1 b2 : Value) (P : Int -> Bool) (v : Value) (zs : List Int) (w : World) (hv : OwnI w B v zs) (hn : zs.length <= 1000000) (hE : Enters Tryz.prog f) (hA : Asks f #[b0, b1, b2] P zs fun W => Kept (fun b => v.ownBlock = some b) w W) :
 Calls Tryz.prog 96 #[v, .func (.func f) #[] #[b0, b1, b2]] w fun r w' => ∃ v', r = .returned v' /\ OwnI w' B v' (zs.filter fun z => !P z) /\ v'.ownBlock = v.ownBlock /\ Kept (fun b => v.ownBlock = some b) w w' := by
 have hI := indexFunc3 f (fun b => v.ownBlock = some b) b0 b1 b2 P v zs w hv.has hn hE hA
 unfold Enters at hE
 obtain ⟨n, hN⟩ : ∃ n, n = zs.length := ⟨_, rfl⟩
 obtain ⟨ao, cap, rfl⟩ := row_shape hv
 rw [<- hN] at hn hI hv hA ⊢
 have H : Hid _ := And.intro hv (And.intro hA (And.intro hI (And.intro hN trivial)))
 clear hv hI hN hA
 go_enter Tryz.func96, Tryz.ntmps96
 go_upto_region 2 with (go_at_call 129; refine Calls.mono H.out.2.2.1 ?_; rintro r w1 ⟨hb1, hr1⟩; rcases hr1 with ⟨i, rfl, hz, hf⟩ | ⟨rfl, hall⟩)
 ·obtain ⟨z, hz, hPz⟩ := hz
  have hil : i < n := by have := (List.getElem?_eq_some_iff.1 hz).1; have := H.out.2.2.2.1; omega
  have hO1 : OwnI w1 B (.slice ao n cap) zs := trow_at H.out.1 fun b e => hb1.block b (H.out.1.lt b e).2
  obtain ⟨g0, rfl, _⟩ := own_num hO1 hz
  obtain ⟨gs, rfl⟩ : ∃ gs, gs = g0 := ⟨_, rfl⟩
  have hL0 : Left P zs zs i (i + 1) := ⟨rfl, by omega, by have := H.out.2.2.2.1; omega, by
   rw [take_snoc hz, List.filter_append]
   have h1 : (zs.take i).filter (fun z => !P z) = zs.take i := List.filter_eq_self.2 fun y hy => by rw [hf y hy]; rfl
   rw [h1]; simp [hPz], rfl⟩
  have q9 : ((i : Int) == -1) = false := beq_eq_false_iff_ne.2 (by omega)
  have q8 : IntKind.i64.wrap ((i : Int) + 1) = (i : Int) + 1 := by rw [IntKind.wrap_i64]; omega
  have H1 : Hid _ := And.intro hO1 (And.intro hL0 (Kept.of_below (F := fun b => b = gs) hb1))
  clear hz hPz hf hO1 hL0 hb1
  go_wp2_with fail
  go_loopg [5, 6] (n - (i + 1)) (fun q iv jv wr => ∃ (i j : Nat) (ys : List Int), q = n - j /\ iv = .int .i64 i /\ jv = .int .i64 j /\ OwnI wr B (.slice (some ⟨gs, 0, none⟩) n cap) ys /\ Left P zs ys i j /\ Kept (fun b => b = gs) w wr)
  case atStart => exact ⟨i, i + 1, zs, rfl, rfl, by go_num, H1.out.1, H1.out.2.1, H1.out.2.2⟩
  case round =>
   obtain ⟨i2, j, ys, rfl, rfl, rfl, hOw, hLf, hKp⟩ := hrel
   have hjn : j <= n := by have := hLf.jn; have := H.out.2.2.2.1; omega
   have hij := hLf.ij
   have hyl : n = ys.length := by rw [hLf.len]; exact H.out.2.2.2.1
   clear q9 q8
   by_cases hlt : j < n
   ·have q0 : (0 : Int) <= (j : Int) := by omega
    have q1 : (j : Int) < (n : Int) := by omega
    have q2 : (0 : Int) <= (i2 : Int) := by omega
    have q3 : (i2 : Int) < (n : Int) := by omega
    obtain ⟨z, hz⟩ : ∃ z, zs[j]? = some z := ⟨zs[j]'(by have := H.out.2.2.2.1; omega), List.getElem?_eq_getElem _⟩
    have hce := hOw.cell (hLf.at hz)
    have hAs := H.out.2.1 z wr (List.mem_of_getElem? hz) (hKp.mono fun b _ e => by rw [e]; rfl)
    have HZ : Hid _ := And.intro hz (And.intro hOw (And.intro hLf (And.intro hKp (And.intro hAs hyl))))
    clear hz hOw hLf hKp hAs hyl
    cases hp : P z with
    | true =>
      have HP : Hid (P z = true) := hp
      rw [hp] at HZ
      clear hp
      go_wp2_with (go_at_fn f; refine Calls.mono HZ.out.2.2.2.2.1 ?_; rintro r w2 ⟨rfl, hb2⟩; have H2 : Hid _ := And.intro hb2 trivial; clear hb2)
      go_roundg (n - (j + 1))
      case measure => omega
      case rel => exact ⟨i2, j + 1, ys, rfl, rfl, by go_num, trow_at HZ.out.2.1 fun b e => H2.out.1.block b (HZ.out.2.1.lt b e).2, HZ.out.2.2.1.skip HZ.out.1 HP.out, HZ.out.2.2.2.1.trans (Kept.of_below H2.out.1)⟩
    | false =>
      have HP : Hid (P z = false) := hp
      rw [hp] at HZ
      clear hp
      have q4 : IntKind.i64.wrap ((i2 : Int) + 1) = (i2 : Int) + 1 := by rw [IntKind.wrap_i64]; omega
      go_wp2_with (go_at_fn f; refine Calls.mono HZ.out.2.2.2.2.1 ?_; rintro r w2 ⟨rfl, hb2⟩; have hO2 : OwnI w2 B (.slice (some ⟨gs, 0, none⟩) n cap) ys := (trow_at HZ.out.2.1 fun b e => hb2.block b (HZ.out.2.1.lt b e).2); have hc2 := hO2.cell (show ys[i2]? = some (ys[i2]'(by have := HZ.out.2.2.2.2.2; omega)) from List.getElem?_eq_getElem _); have hf2 : w2.frozen? ⟨gs, i2, none⟩ = false := (by have h9 := hO2; unfold OwnI at h9; rw [<- HZ.out.2.2.2.2.2] at h9; exact h9.frozenAt i2); have H2 : Hid _ := And.intro hb2 hO2; clear hb2 hO2)
      go_roundg (n - (j + 1))
      case measure => omega
      case rel => exact ⟨i2 + 1, j + 1, ys.set i2 z, rfl, by go_num, by go_num, H2.out.2.put2 HZ.out.2.2.2.2.2 i2 z, HZ.out.2.2.1.keep HZ.out.1 HP.out, (HZ.out.2.2.2.1.trans (Kept.of_below H2.out.1)).trans (Kept.setCell _ _ _ _)⟩
   ·obtain rfl : j = n := by omega
    have q1 : ¬ (j : Int) < (j : Int) := by omega
    have hcap : j <= cap := by
     rcases hOw.2 with ⟨e, _⟩ | ⟨_, _, _, e, _, _, h9, _⟩
     ·cases e
     ·cases e; omega
    obtain ⟨us, hcl, hOc, hKc⟩ := clear_ints hOw hyl (i := i2) (by omega)
    have r0 : (0 : Int) <= (i2 : Int) := by omega
    have r1 : (i2 : Int) <= (j : Int) := by omega
    have r2 : (i2 : Int) <= (cap : Int) := by omega
    have r3 : ¬ cap = i2 := by omega
    have HP : Hid _ := And.intro hOc (And.intro hKc (And.intro hLf hKp))
    clear hOc hKc hLf hKp hOw hyl
    go_wp2_with fail
    go_ret
    refine ⟨_, rfl, ?_, rfl, (HP.out.2.2.2.trans HP.out.2.1).mono fun b _ e => by rw [e]; rfl⟩
    have h9 := HP.out.1
    rw [HP.out.2.2.1.head, H.out.2.2.2.1, List.take_length] at h9
    exact h9
 ·have q9 : True := trivial
  have H1 : Hid _ := And.intro hb1 hall
  clear hb1 hall
  go_wp2_with fail
  go_ret
  refine ⟨_, rfl, ?_, rfl, Kept.of_below H1.out.1⟩
  rw [List.filter_eq_self.2 (fun y hy => by rw [H1.out.2 y hy]; rfl)]
  have h9 : OwnI w1 B (.slice ao n cap) zs := trow_at H.out.1 fun b e => H1.out.1.block b (H.out.1.lt b e).2
  exact h9
end
section
open Go.RowKit Go.Maps
attribute [local go_sem ↓] Go.wp_at_zero Go.wp_at_succ
theorem RnM.snocHeap {w w1 w2 : World} {B r g p mb k : Nat} {x : Rv} {vb vh' : Value} {zs : List Int} (h : RnM w B r g p mb x) (hb : Below w.heap.size w w1) (hq : Que w1 B vb zs) (hf : ∀ b, vb.ownBlock = some b -> w.heap.size <= b) (hk : Kept (fun b => x.vh.ownBlock = some b) w1 w2) (hrow : w2.ownsRow B 197 2 vh' (x.ks.length + 1) (hpC x.H x.ks ++ [vb, .int .i64 (k : Int)])) (hat : vh'.ownBlock = x.vh.ownBlock \/ ∀ b, vh'.ownBlock = some b -> w1.heap.size <= b) (ha : At0 vb) :
 RnM (w2.setCell ⟨r, 2, none⟩ vh') B r g p mb { x with vh := vh', H := x.H ++ [(vb, zs)], ks := x.ks ++ [k] } := by
 have h1 := h.below hb
 have hq1 := h.q.snoc hb hq hf
 have hvbf : ∀ b, Foot (x.L ++ [(vb, zs)]) b -> b ≠ r /\ x.vh.ownBlock ≠ some b := fun b hb2 => by
  rcases foot_snoc hb2 with h2 | h2
  ·exact ⟨fun e => h.r_foot (.inr (by rw [<- e]; exact h2)), fun e => h.heap_list e h2⟩
  ·have h3 := hf b h2
   exact ⟨fun e => by have := t_lt h.box; omega, fun e => by have := (h.hp.lt b e).2; omega⟩
 have hnr : ∀ b, vh'.ownBlock = some b -> b ≠ r := fun b hb2 e => by
  rcases hat with h2 | h2
  ·exact h.r_foot (.inl (by rw [<- h2, <- e]; exact hb2))
  ·have := h2 b hb2; have := t_lt h1.box; omega
 have hbx : w2.heap[r]? = w1.heap[r]? := hk.block r (t_lt h1.box) fun e => h.r_foot (.inl e)
 refine ⟨box_put (hbx.trans h1.box) vh', ?_, by rw [List.length_append, List.length_append, h.len]; rfl, ?_, h.up, fun z hz => (List.mem_append.1 hz).elim (h.fl z) fun e => by rw [List.mem_singleton.1 e]; exact ha⟩
 ·have h2 : World.ownsRow w2 B 197 2 vh' (x.ks ++ [k]).length (hpC (x.H ++ [(vb, zs)]) (x.ks ++ [k])) := by
   rw [List.length_append, hpC_snoc x.H x.ks (vb, zs) k h.len]
   exact hrow
  exact own_up h2 (Kept.setCell w2 r 2 vh') fun b hb2 e => hnr b hb2 e
 ·have h2 := (hq1.kept hk fun b hb2 => (hvbf b hb2).2).setBox (r := r) (k := 2) (fun b hb2 => (hvbf b hb2).1) vh'
  exact h2
theorem RnM.setOw {w : World} {B r g p mb gz oz n cap : Nat} {x : Rv} (h : RnM w B r g p mb x) (hv : x.vo = .slice (some ⟨gz, oz, none⟩) n cap) {i : Nat} (hi : i < x.ow.length) (z : Int) : RnM (w.setCell ⟨gz, oz + i, none⟩ (.int .i64 z)) B r g p mb { x with ow := x.ow.set i z } := by
 have hf : Foot x.L gz := ⟨(x.vo, x.ow), by simp [Rv.L], by rw [hv]; rfl⟩
 have hr : r ≠ gz := fun e => h.r_foot (.inr (by rw [e]; exact hf))
 have hk := Kept.setCell w gz (oz + i) (.int .i64 z)
 refine ⟨(hk.block r (t_lt h.box) hr).trans h.box, own_up h.hp hk fun b hb e => h.heap_list hb (by rw [e]; exact hf), h.len, ?_, h.up, h.fl⟩
 have h1 := h.q.setAt (k := 0) (zs := x.ow) (by rw [<- hv]; rfl) hi z
 rw [<- hv] at h1
 exact h1
theorem Que.one {w : World} {B b : Nat} {z : Int} (hB : B <= b) (h : w.heap[b]? = some (.cells #[.int .i64 z] 3 (0, 0))) : Que w B (.slice (some ⟨b, 0, none⟩) 1 1) [z] := .inr ⟨b, 0, 1, _, rfl, hB, h, Nat.le_refl _, by decide, .inl rfl, rfl⟩
theorem grew_snoc {w w1 w2 : World} {r : Nat} {x : Rv} {vb vh' : Value} {zs : List Int} {ks : List Nat} (hb : Below w.heap.size w w1) (hf : ∀ b, vb.ownBlock = some b -> w.heap.size <= b) (hk : Kept (fun b => x.vh.ownBlock = some b) w1 w2) (hat : vh'.ownBlock = x.vh.ownBlock \/ ∀ b, vh'.ownBlock = some b -> w1.heap.size <= b) :
 Grew w (w2.setCell ⟨r, 2, none⟩ vh') r x { x with vh := vh', H := x.H ++ [(vb, zs)], ks := ks } := by
 refine ⟨((Kept.of_below hb).trans (hk.mono fun b _ e => .inr (.inl e))).trans ((Kept.setCell w2 r 2 vh').mono fun b _ e => .inl e), fun b h => ?_⟩
 rcases h with h | h
 ·rcases hat with h2 | h2
  ·exact .inl (.inl (by rw [<- h2]; exact h))
  ·exact .inr (Nat.le_trans hb.size (h2 b h))
 ·rcases foot_snoc (L := x.L) (z := (vb, zs)) h with h2 | h2
  ·exact .inl (.inr h2)
  ·exact .inr (hf b h2)
theorem lift_kp {w w' : World} {a b c gh n k : Nat} {ca cb cc : Nat} {x y z : Value} (hk : Kept (fun i => (Value.slice (some ⟨gh, 0, none⟩) n k).ownBlock = some i) w w') (h1 : a ≠ gh) (h2 : b ≠ gh) (h3 : c ≠ gh) (h : w.cell? ⟨a, ca, none⟩ = some x /\ w.cell? ⟨b, cb, none⟩ = some y /\ w.cell? ⟨c, cc, none⟩ = some z) : w'.cell? ⟨a, ca, none⟩ = some x /\ w'.cell? ⟨b, cb, none⟩ = some y /\ w'.cell? ⟨c, cc, none⟩ = some z := by
 have hc : ∀ (i o : Nat) (v : Value), i ≠ gh -> w.cell? ⟨i, o, none⟩ = some v -> w'.cell? ⟨i, o, none⟩ = some v := fun i o v hi hv => (World.cell?_of_block (a := ⟨i, o, none⟩) (hk.block i (World.block_lt_of_cell? w _ hv) (fun e => hi (by cases e; rfl)))).trans hv
 exact ⟨hc _ _ _ h1 h.1, hc _ _ _ h2 h.2.1, hc _ _ _ h3 h.2.2⟩
theorem lift_st {w : World} {r b c cb cc : Nat} {x y z u : Value} (h2 : r ≠ b) (h3 : c ≠ r) (h : w.cell? ⟨r, 4, none⟩ = some x /\ w.cell? ⟨b, cb, none⟩ = some y /\ w.cell? ⟨c, cc, none⟩ = some z) : (w.setCell ⟨r, 2, none⟩ u).cell? ⟨r, 4, none⟩ = some x /\ (w.setCell ⟨r, 2, none⟩ u).cell? ⟨b, cb, none⟩ = some y /\ (w.setCell ⟨r, 2, none⟩ u).cell? ⟨c, cc, none⟩ = some z := by
 refine ⟨?_, (World.cell?_of_block (a := ⟨b, cb, none⟩) (set_other _ _ _ _ _ (fun e => h2 e.symm))).trans h.2.1, (World.cell?_of_block (a := ⟨c, cc, none⟩) (set_other _ _ _ _ _ h3)).trans h.2.2⟩
 exact (World.cell?_setCell_other w ⟨r, 2, none⟩ ⟨r, 4, none⟩ u (fun e => by injection e with _ e; cases e)).trans h.1
theorem Que.cellAt {w : World} {B g off n cap : Nat} {zs : List Int} (h : Que w B (.slice (some ⟨g, off, none⟩) n cap) zs) {i : Nat} {z : Int} (hi : zs[i]? = some z) : w.cell? ⟨g, off + i, none⟩ = some (.int .i64 z) /\ w.frozen? ⟨g, off + i, none⟩ = false := by
 obtain ⟨g', off', cap', e, _, h1, h2⟩ := h.cell hi
 cases e
 exact ⟨h1, h2⟩
theorem kcell2 {w w' : World} {b o : Nat} {u v : Value} (hk : Kept (fun b => u.ownBlock = some b) w w') (hne : u.ownBlock ≠ some b) (c : w.cell? ⟨b, o, none⟩ = some v) : w'.cell? ⟨b, o, none⟩ = some v := (World.cell?_of_block (a := ⟨b, o, none⟩) (hk.block b (World.block_lt_of_cell? w _ c) hne)).trans c
set_option maxHeartbeats 1000000 in
theorem lift1_asks (bb bl : Nat) (zs : List Int) (v : Value) (w : World) (hc : w.cell? ⟨bb, 0, none⟩ = some (.int .i64 bl)) (hne : v.ownBlock ≠ some bb) : Asks 124 #[.pointer (some ⟨bb, 0, none⟩)] (fun z => z == (bl : Int)) zs fun W => Kept (fun b => v.ownBlock = some b) w W := fun z W _ hk => by
 have c0 := kcell2 hk hne hc
 clear hc hne hk
 show Calls Tryz.prog 124 #[.int .i64 z, .pointer (some ⟨bb, 0, none⟩)] W _
 go_enter Tryz.func124, Tryz.ntmps124
 go_wp2
 go_ret
 exact ⟨rfl, Below.refl _ _⟩
end
end Go.Proofs.YtgehimdkdeldaabGreatDoor
