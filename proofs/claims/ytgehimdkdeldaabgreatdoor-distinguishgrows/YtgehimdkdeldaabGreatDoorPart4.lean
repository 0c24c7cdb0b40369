/- Texts of this claim, joined: RoNote, RoAll, RoBad, RoRound, RoRank, RoRank2, RoFar0, DiPure, DiBy, DiKey, DiBook, DiBy2, DiTell0, DiTell, As. -/
import Derived.Test.YtgehimdkdeldaabGreatDoorPart3
import Derived.BigQuiet
import Derived.Maps.AppendAt
import Derived.Sort.QuietThIn
import Derived.Sort.BigQuietIn
import Derived.Test.YtgehimdkdeldaabGreatDoorPart0
import Derived.Test.YtgehimdkdeldaabGreatDoorPart1
import Derived.Test.YtgehimdkdeldaabGreatDoorPart2
import Derived.Deep.DeepCutAuto
import Derived.Deep.LoopGhost
import Derived.Shelf.Abstract
import Derived.Laws.ResultCell
import Derived.Test.YtgehimdkdeldaabGreatDoorProg
import Derived.WalkKit
import Derived.LaidEql
import Derived.Stop.Asserts
import Derived.RowKitTokens
namespace Go.Proofs.YtgehimdkdeldaabGreatDoor
section
open Go.RowKit Go.Maps
attribute [local go_sem ↓] Go.wp_at_zero Go.wp_at_succ
structure RkAt (W : World) (T m : Nat) (rb : Nat -> Nat) (f : Nat -> Nat -> Int) : Prop where
 tab : ∀ p, p < m -> W.cell? ⟨T, p, none⟩ = some (.slice (some ⟨rb p, 0, none⟩) m m)
 row : ∀ p, p < m -> ∃ cs : Array Value, W.heap[rb p]? = some (.cells cs 3 (0, 0)) /\ cs.toList = (List.range m).map fun q => Value.int .i64 (f p q)
 ne : ∀ p q, p < m -> q < m -> rb p = rb q -> p = q
 tn : ∀ p, p < m -> rb p ≠ T
theorem RkAt.drew {W : World} {T m : Nat} {rb : Nat -> Nat} {f : Nat -> Nat -> Int} (h : RkAt W T m rb f) (n : Nat) : RkAt (W.drewN n) T m rb f := by
 have hb : Below W.heap.size W (W.drewN n) := below_drewN (Below.refl _ _) n
 exact ⟨fun p hp => cell_up (h.tab p hp) hb, fun p hp => by obtain ⟨cs, h1, h2⟩ := h.row p hp; exact ⟨cs, res_up6 hb h1, h2⟩, h.ne, h.tn⟩
theorem RkAt.cell {W : World} {T m : Nat} {rb : Nat -> Nat} {f : Nat -> Nat -> Int} (h : RkAt W T m rb f) {p q : Nat} (hp : p < m) (hq : q < m) : W.cell? ⟨rb p, q, none⟩ = some (.int .i64 (f p q)) := by
 obtain ⟨cs, h1, h2⟩ := h.row p hp
 refine cell0_of h1 ?_
 rw [<- Array.getElem?_toList, h2, List.getElem?_map, List.getElem?_range hq]; rfl
theorem RkAt.free {W : World} {T m : Nat} {rb : Nat -> Nat} {f : Nat -> Nat -> Int} (h : RkAt W T m rb f) {p : Nat} (hp : p < m) (q : Nat) : W.frozen? ⟨rb p, q, none⟩ = false := by
 obtain ⟨cs, h1, _⟩ := h.row p hp
 exact blk_free h1 q
theorem RkAt.congr {W : World} {T m : Nat} {rb : Nat -> Nat} {f g : Nat -> Nat -> Int} (h : RkAt W T m rb f) (e : ∀ p q, p < m -> q < m -> f p q = g p q) : RkAt W T m rb g :=
 ⟨h.tab, fun p hp => by
  obtain ⟨cs, h1, h2⟩ := h.row p hp
  exact ⟨cs, h1, h2.trans (List.map_congr_left fun q hq => by rw [e p q hp (List.mem_range.1 hq)])⟩, h.ne, h.tn⟩
theorem RkAt.set {W : World} {T m : Nat} {rb : Nat -> Nat} {f : Nat -> Nat -> Int} (h : RkAt W T m rb f) {p q : Nat} (hp : p < m) (v : Int) : RkAt (W.setCell ⟨rb p, q, none⟩ (.int .i64 v)) T m rb (fun a b => if a = p /\ b = q then v else f a b) := by
 refine ⟨fun a ha => ?_, fun a ha => ?_, h.ne, h.tn⟩
 ·rw [cell_block (setCell_other _ (fun e => h.tn p hp e.symm))]
  exact h.tab a ha
 ·by_cases e : a = p
  ·subst e
   obtain ⟨cs, h1, h2⟩ := h.row a ha
   refine ⟨cs.setIfInBounds q (.int .i64 v), heap_setCell_same W (rb a) q cs 3 _ h1, ?_⟩
   rw [Array.toList_setIfInBounds, h2]
   apply List.ext_getElem?
   intro i
   rw [List.getElem?_set]
   by_cases hi : i < m
   ·rw [List.getElem?_map, List.getElem?_map, List.getElem?_range hi]
    by_cases hqi : q = i
    ·subst hqi; simp [hi]
    ·have : ¬ i = q := fun e => hqi e.symm
     simp [hqi, this]
   ·rw [List.getElem?_eq_none (by simp; omega), List.getElem?_eq_none (by simp; omega)]
    by_cases hqi : q = i
    ·subst hqi; simp [hi]
    ·simp [hqi]
  ·obtain ⟨cs, h1, h2⟩ := h.row a ha
   refine ⟨cs, (setCell_other _ (fun e2 => e (h.ne a p ha hp e2))).trans h1, h2.trans (List.map_congr_left fun q' _ => ?_)⟩
   rw [if_neg (fun e2 => e e2.1)]
def nt (f : Nat -> Nat -> Int) (c : List Nat) (r : Nat) (p q : Nat) : Int := if f p q = -1 /\ c[p]? ≠ c[q]? then (r : Int) else f p q
def RbF (m : Nat) (rb : Nat -> Nat) (b : Nat) : Prop := ∃ p, p < m /\ b = rb p
structure NtAt (w wr : World) (T m : Nat) (rb : Nat -> Nat) (f : Nat -> Nat -> Int) : Prop where
 tb : RkAt wr T m rb f
 kp : Kept (RbF m rb) w wr
theorem NtAt.drew {w wr : World} {T m : Nat} {rb : Nat -> Nat} {f : Nat -> Nat -> Int} (h : NtAt w wr T m rb f) (n : Nat) : NtAt w (wr.drewN n) T m rb f := ⟨h.tb.drew n, h.kp.trans (Kept.of_below (below_drewN (Below.refl _ _) n))⟩
theorem NtAt.set {w wr : World} {T m : Nat} {rb : Nat -> Nat} {f : Nat -> Nat -> Int} (h : NtAt w wr T m rb f) {p q : Nat} (hp : p < m) (v : Int) : NtAt w (wr.setCell ⟨rb p, q, none⟩ (.int .i64 v)) T m rb (fun a b => if a = p /\ b = q then v else f a b) :=
 ⟨h.tb.set hp v, h.kp.trans ((Kept.setCell wr (rb p) q _).mono fun _ _ e => ⟨p, hp, e⟩)⟩
def midN (f : Nat -> Nat -> Int) (c : List Nat) (r p q : Nat) (a b : Nat) : Int := if a < p \/ (a = p /\ b < q) then nt f c r a b else f a b
theorem mid_same {f : Nat -> Nat -> Int} {c : List Nat} {r p q : Nat} (h : nt f c r p q = f p q) (a b : Nat) : midN f c r p q a b = midN f c r p (q + 1) a b := by
 unfold midN
 by_cases h1 : a < p \/ (a = p /\ b < q)
 ·rw [if_pos h1, if_pos (by omega)]
 ·rw [if_neg h1]
  by_cases h2 : a < p \/ (a = p /\ b < q + 1)
  ·rw [if_pos h2]
   obtain ⟨rfl, rfl⟩ : a = p /\ b = q := by omega
   exact h.symm
  ·rw [if_neg h2]
theorem mid_put {f : Nat -> Nat -> Int} {c : List Nat} {r p q : Nat} (h : nt f c r p q = (r : Int)) (a b : Nat) : (if a = p /\ b = q then (r : Int) else midN f c r p q a b) = midN f c r p (q + 1) a b := by
 unfold midN
 by_cases h0 : a = p /\ b = q
 ·rw [if_pos h0, if_pos (by omega), h0.1, h0.2, h]
 ·rw [if_neg h0]
  by_cases h1 : a < p \/ (a = p /\ b < q)
  ·rw [if_pos h1, if_pos (by omega)]
  ·rw [if_neg h1, if_neg (by omega)]
set_option maxRecDepth 100000 in
set_option maxHeartbeats 8000000 in
theorem note_any (T m cb r : Nat) (rb : Nat -> Nat) (f : Nat -> Nat -> Int) (c : List Nat) (cs : Array Value) (w : World) (hm : m <= 1000) (hc : c.length = m) (hT : RkAt w T m rb f) (hcb : w.heap[cb]? = some (.cells cs 3 (0, 0))) (hcs : cs.toList = natC c) (hne : ∀ p, p < m -> rb p ≠ cb) :
 Calls Tryz.prog 39 #[.slice (some ⟨T, 0, none⟩) m m, .int .i64 r, .slice (some ⟨cb, 0, none⟩) m m] w fun e w' => (∃ v, e = .returned v) /\ NtAt w w' T m rb (nt f c r) := by
 have hcl : ∀ (W : World) (i x : Nat), Kept (RbF m rb) w W -> c[i]? = some x -> W.cell? ⟨cb, i, none⟩ = some (.int .i64 x) := fun W i x hk hx =>
  cell0_of ((hk.block cb (t_lt hcb) fun ⟨p, hp, e⟩ => hne p hp e.symm).trans hcb) (by rw [<- Array.getElem?_toList, hcs]; simp [natC, hx])
 have HH : Hid _ := And.intro hT (And.intro hcl hc)
 clear hT hcb hcs hne hcl hc
 go_enter Tryz.func39, Tryz.ntmps39
 go_wp2_with fail
 go_loopg [12] m (fun g iv wr => ∃ p : Nat, g = m - p /\ p <= m /\ iv = .int .i64 p /\ NtAt w wr T m rb (midN f c r p 0))
 case atStart => exact ⟨0, rfl, Nat.zero_le _, rfl, HH.out.1.congr (fun a b _ _ => by unfold midN; rw [if_neg (by omega)]), Kept.refl _ _⟩
 case round =>
  obtain ⟨p, rfl, hp, rfl, hN⟩ := hrel
  obtain ⟨w1, rfl⟩ : ∃ w1, w1 = wr := ⟨_, rfl⟩
  by_cases hlt : p < m
  ·have c1 := hN.tb.tab p hlt
   have q0 : (0 : Int) <= (p : Int) := by omega
   have q1 : (p : Int) < (m : Int) := by omega
   have HN : Hid _ := hN
   clear hN
   go_wp2_with fail
   clear c1
   go_loopg [19] m (fun g iv wr => ∃ q : Nat, g = m - q /\ q <= m /\ iv = .int .i64 q /\ NtAt w wr T m rb (midN f c r p q))
   case atStart => exact ⟨0, rfl, Nat.zero_le _, rfl, HN.out⟩
   case round =>
    obtain ⟨q, rfl, hq, rfl, hM⟩ := hrel
    by_cases hql : q < m
    ·have hfv : midN f c r p q p q = f p q := by unfold midN; rw [if_neg (by omega)]
     have c2 := hM.tb.cell hlt hql
     rw [hfv] at c2
     have cf := hM.tb.free hlt q
     obtain ⟨x, hx⟩ : ∃ x, c[p]? = some x := ⟨c[p]'(by have := HH.out.2.2; omega), List.getElem?_eq_getElem _⟩
     obtain ⟨y, hy⟩ : ∃ x, c[q]? = some x := ⟨c[q]'(by have := HH.out.2.2; omega), List.getElem?_eq_getElem _⟩
     have d1 := HH.out.2.1 wr p x hM.kp hx
     have d2 := HH.out.2.1 wr q y hM.kp hy
     have p0 : (0 : Int) <= (q : Int) := by omega
     have p1 : (q : Int) < (m : Int) := by omega
     obtain ⟨v, hv⟩ : ∃ v, v = f p q := ⟨_, rfl⟩
     rw [<- hv] at c2
     have HM : Hid _ := And.intro hM (And.intro hx (And.intro hy hv))
     clear hM hx hy hv hfv
     by_cases hv1 : v = -1
     ·have g1 : (v == -1) = true := by simp [hv1]
      by_cases hxy : x = y
      ·have g2 : ((x : Int) != (y : Int)) = false := by simp [hxy]
       have HS : Hid (nt f c r p q = f p q) := by
        have h9 : nt f c r p q = f p q := by unfold nt; rw [if_neg (fun e => e.2 (by rw [HM.out.2.1, HM.out.2.2.1, hxy]))]
        exact h9
       clear hv1 hxy
       go_wp2_with fail
       go_quiet (fail)
       rename Nat => nq
       go_wp2_with fail
       go_roundg (m - (q + 1))
       case measure => omega
       case rel => exact ⟨q + 1, rfl, by omega, by go_num, by
        have h1 := HM.out.1.drew nq
        exact ⟨h1.tb.congr fun a b _ _ => mid_same HS.out a b, h1.kp⟩⟩
      ·have g2 : ((x : Int) != (y : Int)) = true := by simp; omega
       have HS : Hid (nt f c r p q = (r : Int)) := by
        have h9 : nt f c r p q = (r : Int) := by unfold nt; rw [if_pos ⟨by rw [<- HM.out.2.2.2]; exact hv1, by rw [HM.out.2.1, HM.out.2.2.1]; exact fun e => hxy (Option.some.inj e)⟩]
        exact h9
       clear hv1 hxy
       go_wp2_with fail
       go_quiet (fail)
       rename Nat => nq
       have cz : (wr.drewN nq).cell? ⟨rb p, q, none⟩ = some (.int .i64 v) := c2
       go_wp2_with fail
       go_roundg (m - (q + 1))
       case measure => omega
       case rel => exact ⟨q + 1, rfl, by omega, by go_num, by
        have h1 := (HM.out.1.drew nq).set (q := q) hlt (r : Int)
        exact ⟨h1.tb.congr fun a b _ _ => mid_put HS.out a b, h1.kp⟩⟩
     ·have g1 : (v == -1) = false := by simp [hv1]
      have HS : Hid (nt f c r p q = f p q) := by
       have h9 : nt f c r p q = f p q := by unfold nt; rw [if_neg (fun e => hv1 (HM.out.2.2.2.trans e.1))]
       exact h9
      clear hv1
      go_wp2_with fail
      go_quiet (fail)
      rename Nat => nq
      go_wp2_with fail
      go_roundg (m - (q + 1))
      case measure => omega
      case rel => exact ⟨q + 1, rfl, by omega, by go_num, by
       have h1 := HM.out.1.drew nq
       exact ⟨h1.tb.congr fun a b _ _ => mid_same HS.out a b, h1.kp⟩⟩
    ·obtain rfl : q = m := by omega
     have r1 : ¬ (q : Int) < (q : Int) := by omega
     have HM : Hid _ := hM
     clear hM
     go_wp2_with fail
     go_roundg (q - (p + 1))
     case measure => omega
     case rel => exact ⟨p + 1, rfl, by omega, by go_num, HM.out.tb.congr (fun a b _ hb => by
      unfold midN
      by_cases h1 : a < p \/ (a = p /\ b < q)
      ·rw [if_pos h1, if_pos (by omega)]
      ·rw [if_neg h1, if_neg (by omega)]), HM.out.kp⟩
  ·obtain rfl : p = m := by omega
   have r1 : ¬ (p : Int) < (p : Int) := by omega
   have HN : Hid _ := hN
   clear hN
   go_wp2_with fail
   go_end0
   exact ⟨⟨_, rfl⟩, HN.out.tb.congr (fun a b ha _ => by unfold midN; rw [if_pos (by omega)]), HN.out.kp⟩
end
section
open Go.RowKit Go.Maps Go.Shelf
attribute [local go_sem] Oper.semAt_some
structure RwAt (W : World) (B m : Nat) (out : Nat -> List Ro.St) (pre : List Rd) : Prop where
 row : ∀ (j : Nat) (x : Rd), pre[j]? = some x -> x.1 = j /\ B <= x.2 /\ ∃ cs : Array Value, W.heap[x.2]? = some (.cells cs 3 (0, 0)) /\ cs.toList = natC (Ro.rnd m out j)
 up : pre.Pairwise fun y x => y.2 < x.2
theorem good_put {n1 m : Nat} {out : Nat -> List Ro.St} (pre : List Rd) (x : Rd) (W : World) (l : Nat) (o o' : Obj) (hl : W.heap[l]? = some o) (ho : o.isCells = false) (h : GoodR n1 m out pre x W) : GoodR n1 m out pre x (W.putObj l o') := by
 obtain ⟨cs, h3, h4⟩ := h.blk
 have hne : x.2 ≠ l := fun e => by rw [<- e, h3] at hl; cases hl; cases ho
 exact ⟨h.num, h.small, h.up, h.gu, cs, (World.putObj_heap_other hne).trans h3, h4⟩
theorem kpr_put {n0 n1 : Nat} {w : World} (hn0 : n0 <= w.heap.size) (W : World) (l : Nat) (o o' : Obj) (hw : w.heap.size <= l) (hl : W.heap[l]? = some o) (ho : o.isCells = false) (hk : o.isWalk = false) : KpR n0 n1 W (W.putObj l o') :=
 ⟨belowK_b hn0 W l o o' hw hl ho hk, fun b cs _ hc => by
  have hne : b ≠ l := fun e => by rw [<- e, hc] at hl; cases hl; cases ho
  exact (World.putObj_heap_other hne).trans hc⟩
def hdr (m : Nat) (x : Rd) : Value := .slice (some ⟨x.2, 0, none⟩) m m
def OwnRs (W : World) (B m : Nat) (v : Value) (xs : List Rd) : Prop := W.ownsRow B 39 1 v xs.length (xs.map (hdr m))
theorem Tryz.infoRI : (Tryz.prog.info? 39).map (fun i => (i.zero, i.size, i.bytes)) = some (some (.slice none 0 0), 1, 24) := by kernel_rfl
theorem steps_fit {m : Nat} {k s : Int} {es : List Sy.Ed} (hq : Sy.right m k s es = true) : Fit m (outOf m es) := fun i hi => by
 have hp := right_parts hq
 have h1 := rowOf_len m (Sy.nf es) i
 have h2 := Sy.nf_len es
 refine ⟨by unfold outOf; omega, fun z hz => ?_⟩
 unfold outOf Sy.rowOf at hz
 rw [if_pos ⟨by omega, by omega⟩] at hz
 unfold Sy.steps at hz
 obtain ⟨e, he, rfl⟩ := List.mem_map.1 hz
 have h3 := hp.2.2.2.2.2 e ((Sy.nf_mem es e).1 (List.mem_filter.1 he).1)
 show (0 <= e.2.1 /\ e.2.1 <= 300) /\ 0 <= e.2.2 /\ e.2.2 < (m : Int)
 omega
end
section
open Go.RowKit Go.Maps
attribute [local go_sem ↓] Go.wp_at_zero Go.wp_at_succ
end
section
open Go.RowKit
variable {F : Fence} {n : Nat} {P : Program} {ops : Array Oper}
def noDefer (l : List Oper) : Bool := l.all fun o => match o.op with | .defer _ => false | _ => true
end
section
open Go.RowKit Go.Maps Go.Shelf
attribute [local go_sem] Oper.semAt_some
structure PgAt (w w1 : World) (n k s p q : Int) (ao : Option Addr) (L cap : Nat) : Prop where
 bl : Below w.heap.size w w1
 bs : w1.heap[w.heap.size]? = some (.cells #[.int .i64 n, .int .i64 k, .int .i64 s, .slice ao L cap] 27 (0, 0))
 bp : Boxed w1 (w.heap.size + 1) 3 (.int .i64 p)
 bq : Boxed w1 (w.heap.size + 2) 3 (.int .i64 q)
 br : Boxed w1 (w.heap.size + 3) 3 (.int .i64 0)
 be : Boxed w1 (w.heap.size + 4) 32 .nilIface
def pgW (w : World) (n k s p q : Int) (ao : Option Addr) (L cap : Nat) : World := ((((w.alloc (.cells #[.int .i64 n, .int .i64 k, .int .i64 s, .slice ao L cap] 27)).alloc (.cells #[.int .i64 p] 3)).alloc (.cells #[.int .i64 q] 3)).alloc (.cells #[.int .i64 0] 3)).alloc (.cells #[.nilIface] 32)
theorem Chain.set {w : World} {l c : Int} {a : Addr} {g o : Nat} {x : Value} {t : TypeId} {cs : Array Value} (hg : w.heap[g]? = some (.cells cs t (0, 0))) (ht : t ≠ 98) : ∀ {ls : List ByteArray} {v : Value}, Chain w l c a ls v -> Chain (w.setCell ⟨g, o, none⟩ x) l c a ls v
 | [], _, h => h
 | s :: r, v, h => by
   obtain ⟨b, u, h1, h2, h3⟩ := h
   have hne : b ≠ g := fun e => by
    rw [<- e, h2] at hg
    injection hg with hg
    injection hg with _ h4
    exact ht h4.symm
   exact ⟨b, u, h1, (setCell_other _ hne).trans h2, Chain.set hg ht h3⟩
end
section
open Go.RowKit Go.Maps
attribute [local go_sem ↓] Go.wp_at_zero Go.wp_at_succ
theorem Tryz.eqNilErr5 (v : Value) (w : World) : (binOp BinOp.eql 32 .nilIface (.iface 269 v)).run Tryz.prog w = .ok (.bool false) w := by kernel_rfl
theorem is_nil5 (v : Value) (w : World) : Calls Tryz.prog 16 #[.nilIface, .iface 269 v] w fun e w' => e = .returned (.bool false) /\ w' = w := by
 have hq := Tryz.eqNilErr5 v
 go_enter Tryz.func16, Tryz.ntmps16
 go_wp2
 go_ret
 exact ⟨rfl, rfl⟩
structure ErR (w : World) (e : Nat -> Addr) : Prop where
 s14 : 14 <= 19 -> Sent w 5 (e 14)
 s18 : 18 <= 19 -> Sent w 1 (e 18)
theorem rankG_first {m : Nat} {out : Nat -> List Ro.St} {p q : Nat} {j : Nat} : ∀ (f k : Nat), k <= j -> j < k + f -> (Ro.rnd m out j)[p]? ≠ (Ro.rnd m out j)[q]? -> (∀ i, i < j -> (Ro.rnd m out i)[p]? = (Ro.rnd m out i)[q]?) -> Ro.rankG m out p q k f = (j : Int)
 | 0, k, h1, h2, _, _ => by omega
 | f + 1, k, h1, h2, h3, h4 => by
   unfold Ro.rankG
   rcases Nat.lt_or_ge k j with h | h
   ·rw [if_pos (h4 k h)]
    exact rankG_first f (k + 1) (by omega) (by omega) h3 h4
   ·obtain rfl : k = j := by omega
    rw [if_neg h3]
theorem rankG_none {m : Nat} {out : Nat -> List Ro.St} {p q : Nat} : ∀ (f k : Nat), (∀ i, k <= i -> i < k + f -> (Ro.rnd m out i)[p]? = (Ro.rnd m out i)[q]?) -> Ro.rankG m out p q k f = -1
 | 0, k, _ => rfl
 | f + 1, k, h => by
   unfold Ro.rankG
   rw [if_pos (h k (by omega) (by omega))]
   exact rankG_none f (k + 1) fun i h1 h2 => h i (by omega) (by omega)
end
section
open Go.RowKit Go.Maps
def rkT (m : Nat) (out : Nat -> List Ro.St) (k : Nat) (p q : Nat) : Int := Ro.rankG m out p q 0 k
theorem rkT_cases (m : Nat) (out : Nat -> List Ro.St) (p q : Nat) : ∀ k, (∃ j, j < k /\ rkT m out k p q = (j : Int) /\ (Ro.rnd m out j)[p]? ≠ (Ro.rnd m out j)[q]? /\ ∀ i, i < j -> (Ro.rnd m out i)[p]? = (Ro.rnd m out i)[q]?) \/ (rkT m out k p q = -1 /\ ∀ i, i < k -> (Ro.rnd m out i)[p]? = (Ro.rnd m out i)[q]?) := by
 intro k
 by_cases h : ∃ j, j < k /\ (Ro.rnd m out j)[p]? ≠ (Ro.rnd m out j)[q]?
 ·obtain ⟨j, hj, hd, hmin⟩ : ∃ j, j < k /\ (Ro.rnd m out j)[p]? ≠ (Ro.rnd m out j)[q]? /\ ∀ i, i < j -> (Ro.rnd m out i)[p]? = (Ro.rnd m out i)[q]? := by
   obtain ⟨j, hj, hd⟩ := h
   induction j using Nat.strongRecOn with
   | ind j ih =>
     by_cases h2 : ∃ i, i < j /\ (Ro.rnd m out i)[p]? ≠ (Ro.rnd m out i)[q]?
     ·obtain ⟨i, hi, hdi⟩ := h2
      exact ih i hi (by omega) hdi
     ·exact ⟨j, hj, hd, fun i hi => Classical.byContradiction fun e => h2 ⟨i, hi, e⟩⟩
  exact .inl ⟨j, hj, rankG_first k 0 (Nat.zero_le _) (by omega) hd hmin, hd, hmin⟩
 ·exact .inr ⟨rankG_none k 0 fun i _ hi => Classical.byContradiction fun e => h ⟨i, by omega, e⟩, fun i hi => Classical.byContradiction fun e => h ⟨i, hi, e⟩⟩
theorem rkT_succ (m : Nat) (out : Nat -> List Ro.St) (k p q : Nat) : nt (rkT m out k) (Ro.rnd m out k) k p q = rkT m out (k + 1) p q := by
 unfold nt
 rcases rkT_cases m out p q k with ⟨j, hj, e, hd, hmin⟩ | ⟨e, hall⟩
 ·rw [if_neg (fun h => by rw [e] at h; omega), e]
  exact (rankG_first (k + 1) 0 (Nat.zero_le _) (by omega) hd hmin).symm
 ·by_cases h : (Ro.rnd m out k)[p]? = (Ro.rnd m out k)[q]?
  ·rw [if_neg (fun h2 => h2.2 h), e]
   refine (rankG_none (k + 1) 0 fun i _ hi => ?_).symm
   rcases Nat.lt_or_ge i k with h1 | h1
   ·exact hall i h1
   ·obtain rfl : i = k := by omega
    exact h
  ·rw [if_pos ⟨e, h⟩]
   exact (rankG_first (k + 1) 0 (Nat.zero_le _) (by omega) h hall).symm
theorem rkT_comm (m : Nat) (out : Nat -> List Ro.St) (k p q : Nat) : rkT m out k p q = rkT m out k q p := by
 rcases rkT_cases m out p q k with ⟨j, hj, e, hd, hmin⟩ | ⟨e, hall⟩
 ·rw [e]
  exact (rankG_first k 0 (Nat.zero_le _) (by omega) (fun h => hd h.symm) (fun i hi => (hmin i hi).symm)).symm
 ·rw [e]
  exact (rankG_none k 0 fun i _ hi => (hall i (by omega)).symm).symm
theorem rkT_ne0 (m : Nat) (out : Nat -> List Ro.St) (k : Nat) {p q : Nat} (hp : p < m) (hq : q < m) : rkT m out k p q ≠ 0 := by
 rcases rkT_cases m out p q k with ⟨j, hj, e, hd, hmin⟩ | ⟨e, hall⟩
 ·rw [e]
  intro h
  obtain rfl : j = 0 := by omega
  exact hd (by simp [Ro.rnd, hp, hq])
 ·rw [e]; decide
theorem rkT_lt (m : Nat) (out : Nat -> List Ro.St) (k p q : Nat) : -1 <= rkT m out k p q /\ rkT m out k p q < max k 1 := by
 rcases rkT_cases m out p q k with ⟨j, hj, e, _⟩ | ⟨e, _⟩ <;> omega
def farI (x : Int) : Int := if x < 0 then 1048576 else x
theorem rk_own (T m : Nat) (rb : Nat -> Nat) (f : List Rd -> Nat -> Nat -> Int) : Own (fun (pre : List Rd) W => RkAt W T m rb (f pre) /\ ∃ cs t fr, W.heap[T]? = some (.cells cs t fr)) := fun s W W' row hs hg hr => by
 obtain ⟨h, ct, tt, fr, hT⟩ := hs
 have up : ∀ (b : Nat) (cs : Array Value) (t : TypeId) (fr : Nat × Nat), W.heap[b]? = some (.cells cs t fr) -> W'.heap[b]? = W.heap[b]? := fun b cs t fr hc => by
  have h1 : some b ≠ row := fun e => by
   obtain ⟨o, ho, hoc⟩ := hr b e.symm
   rw [hc] at ho
   cases ho
   cases hoc
  exact hg.block b (t_lt hc) h1
 refine ⟨⟨fun p hp => ?_, fun p hp => ?_, h.ne, h.tn⟩, ct, tt, fr, (up T _ _ _ hT).trans hT⟩
 ·rw [cell_block (up T _ _ _ hT)]
  exact h.tab p hp
 ·obtain ⟨cs, h1, h2⟩ := h.row p hp
  exact ⟨cs, (up _ _ _ _ h1).trans h1, h2⟩
end
namespace Di
open Go.Proofs.YtgehimdkdeldaabGreatDoor (rkT rkT_cases rkT_comm rkT_ne0 rkT_lt)
inductive Fm where
 | tt : Fm
 | neg (a : Fm) : Fm
 | may (l : Int) (a : Fm) : Fm
 | both (a b : Fm) : Fm
 deriving DecidableEq
def Fm.size : Fm -> Nat
 | .tt => 1
 | .neg a => a.size + 1
 | .may _ a => a.size + 1
 | .both a b => a.size + b.size + 1
def Fm.nodes : Fm -> List (Int × Int)
 | .tt => [(1, 0)]
 | .neg a => a.nodes ++ [(2, 0)]
 | .may l a => a.nodes ++ [(4, l)]
 | .both a b => a.nodes ++ b.nodes ++ [(3, 0)]
theorem Fm.nodes_len (a : Fm) : a.nodes.length = a.size := by
 induction a with
 | tt => rfl
 | neg a ih => simp [nodes, size, ih]
 | may l a ih => simp [nodes, size, ih]
 | both a b iha ihb => simp [nodes, size, iha, ihb]; omega
variable (out : Nat -> List Ro.St) (rk : Nat -> Nat -> Int)
def met (k : Int) (p' : Nat) (y : Ro.St) : Bool := rk p' y.2.toNat == -1 || decide (k <= rk p' y.2.toNat)
def byl (q : Nat) (x : Int) : List Ro.St := (out q).filter fun y => y.1 == x
def tel (p q : Nat) (z : Ro.St) : Bool := !(byl out q z.1).any (met rk (rk p q) z.2.toNat)
def telling (p q : Nat) : Option Ro.St := (out p).find? (tel out rk p q)
def join1 : List Fm -> Fm
 | [] => .tt
 | a :: r => r.foldl Fm.both a
def jn (l : List Fm) : Fm := join1 (Ro.dd l)
def fm : Nat -> Nat -> Nat -> Fm
 | 0, _, _ => .tt
 | f + 1, p, q => match telling out rk p q with
   | none => .neg (fm f q p)
   | some z => .may z.1 (jn ((byl out q z.1).map fun y => fm f z.2.toNat y.2.toNat))
theorem fm_succ (f p q : Nat) : fm out rk (f + 1) p q = match telling out rk p q with
 | none => .neg (fm out rk f q p)
 | some z => .may z.1 (jn ((byl out q z.1).map fun y => fm out rk f z.2.toNat y.2.toNat)) := rfl
def mu (p q : Nat) : Nat := 2 * (rk p q).toNat + if (telling out rk p q).isSome then 0 else 1
structure Th (m : Nat) : Prop where
 dst : ∀ i, i < m -> ∀ z ∈ out i, 0 <= z.2 /\ z.2 < (m : Int)
 comm : ∀ p q, rk p q = rk q p
 lo : ∀ p q, p < m -> q < m -> rk p q = -1 \/ 1 <= rk p q
 hi : ∀ p q, rk p q <= 1000
 one : ∀ p q, p < m -> q < m -> 1 <= rk p q -> (telling out rk p q).isSome \/ (telling out rk q p).isSome
theorem tel_mem {p q : Nat} {z : Ro.St} (h : telling out rk p q = some z) : z ∈ out p /\ tel out rk p q z = true := ⟨List.mem_of_find?_eq_some h, List.find?_some h⟩
variable {out rk}
theorem tel_part {p q : Nat} {z y : Ro.St} (h : tel out rk p q z = true) (hy : y ∈ byl out q z.1) : rk z.2.toNat y.2.toNat ≠ -1 /\ rk z.2.toNat y.2.toNat < rk p q := by
 unfold tel at h
 rw [Bool.not_eq_true', List.any_eq_false] at h
 have h1 := h y hy
 unfold met at h1
 simp only [Bool.or_eq_true, beq_iff_eq, decide_eq_true_eq, not_or] at h1
 omega
theorem Th.flip {m : Nat} (h : Th out rk m) {p q : Nat} (hp : p < m) (hq : q < m) (hr : 1 <= rk p q) (hn : telling out rk p q = none) : mu out rk q p < mu out rk p q /\ 1 <= rk q p /\ (telling out rk q p).isSome := by
 have h1 := h.one p q hp hq hr
 rw [hn] at h1
 simp only [Option.isSome_none, Bool.false_eq_true, false_or] at h1
 unfold mu
 rw [hn, h1, h.comm q p]
 simp
 exact hr
theorem Th.part {m : Nat} (h : Th out rk m) {p q : Nat} (hp : p < m) (hq : q < m) {z y : Ro.St} (hz : telling out rk p q = some z) (hy : y ∈ byl out q z.1) :
 z.2.toNat < m /\ y.2.toNat < m /\ 1 <= rk z.2.toNat y.2.toNat /\ mu out rk z.2.toNat y.2.toNat < mu out rk p q := by
 obtain ⟨h1, h2⟩ := tel_mem out rk hz
 have h3 := tel_part h2 hy
 have d1 := h.dst p hp z h1
 have d2 := h.dst q hq y (List.mem_filter.1 hy).1
 have z1 : z.2.toNat < m := by omega
 have y1 : y.2.toNat < m := by omega
 have h4 := h.lo z.2.toNat y.2.toNat z1 y1
 refine ⟨z1, y1, by omega, ?_⟩
 unfold mu
 rw [hz]
 simp only [Option.isSome_some, if_true]
 split <;> omega
theorem Th.stab {m : Nat} (h : Th out rk m) : ∀ (f p q : Nat), p < m -> q < m -> 1 <= rk p q -> mu out rk p q < f -> fm out rk (f + 1) p q = fm out rk f p q
 | 0, _, _, _, _, _, hf => by omega
 | f + 1, p, q, hp, hq, hr, hf => by
   have e1 := fm_succ out rk (f + 1) p q
   have e2 := fm_succ out rk f p q
   rw [e1, e2]
   clear e1 e2
   cases e : telling out rk p q with
   | none =>
     obtain ⟨h1, h2, _⟩ := h.flip hp hq hr e
     simp only
     rw [h.stab f q p hq hp h2 (by omega)]
   | some z =>
     simp only
     congr 2
     refine List.map_congr_left fun y hy => ?_
     obtain ⟨h1, h2, h3, h4⟩ := h.part hp hq e hy
     exact h.stab f _ _ h1 h2 h3 (by omega)
def FF (out : Nat -> List Ro.St) (rk : Nat -> Nat -> Int) (p q : Nat) : Fm := fm out rk 3000 p q
theorem Th.mu_lt {m : Nat} (h : Th out rk m) (p q : Nat) : mu out rk p q < 2002 := by
 have := h.hi p q
 unfold mu
 split <;> omega
theorem Th.eq {m : Nat} (h : Th out rk m) {p q : Nat} (hp : p < m) (hq : q < m) (hr : 1 <= rk p q) : FF out rk p q = match telling out rk p q with
 | none => .neg (FF out rk q p)
 | some z => .may z.1 (jn ((byl out q z.1).map fun y => FF out rk z.2.toNat y.2.toNat)) := by
 have h0 := h.mu_lt p q
 unfold FF
 rw [<- h.stab 3000 p q hp hq hr (by omega)]
 exact fm_succ out rk 3000 p q
theorem dd_snoc_join (l : List Fm) (c : Fm) (hl : l ≠ []) : jn (l ++ [c]) = if c ∈ Ro.dd l then jn l else .both (jn l) c := by
 unfold jn
 rw [Ro.dd_snoc]
 unfold Ro.more
 split
 ·rfl
 ·cases e : Ro.dd l with
  | nil =>
    exfalso
    obtain ⟨a, r, rfl⟩ := List.exists_cons_of_ne_nil hl
    have := (Ro.mem_dd (a :: r)).2 (List.mem_cons_self (a := a))
    rw [e] at this
    simp at this
  | cons a r => simp [join1, List.foldl_append]
theorem foldl_both_size (r : List Fm) (a b : Fm) : a.size <= (r.foldl Fm.both a).size /\ (b ∈ r -> b.size < (r.foldl Fm.both a).size) := by
 induction r generalizing a with
 | nil => simp
 | cons x r ih =>
   simp only [List.foldl_cons]
   have h1 := (ih (.both a x)).1
   have hx : (Fm.both a x).size = a.size + x.size + 1 := rfl
   refine ⟨by omega, fun hb => ?_⟩
   rcases List.mem_cons.1 hb with rfl | hb
   ·omega
   ·exact (ih (.both a x)).2 hb
theorem jn_size {l : List Fm} {a : Fm} (h : a ∈ l) : a.size <= (jn l).size := by
 have h1 := (Ro.mem_dd l).2 h
 unfold jn
 cases e : Ro.dd l with
 | nil => rw [e] at h1; simp at h1
 | cons x r =>
   rw [e] at h1
   simp only [join1]
   rcases List.mem_cons.1 h1 with rfl | h2
   ·exact (foldl_both_size r a a).1
   ·exact Nat.le_of_lt ((foldl_both_size r x a).2 h2)
theorem jn_grow (l r : List Fm) (hl : l ≠ []) : (jn l).size <= (jn (l ++ r)).size := by
 induction r generalizing l with
 | nil => simp
 | cons c r ih =>
   have h1 := ih (l ++ [c]) (by simp)
   rw [List.append_assoc, List.singleton_append] at h1
   rw [dd_snoc_join l c hl] at h1
   split at h1
   ·exact h1
   ·have : (Fm.both (jn l) c).size = (jn l).size + c.size + 1 := rfl
    omega
theorem th_of {m : Nat} {out : Nat -> List Ro.St} (hd : ∀ i, i < m -> ∀ z ∈ out i, 0 <= z.2 /\ z.2 < (m : Int)) (hm : m <= 1000) {K : Nat} (hK : K <= 1001) : Th out (rkT m out K) m := by
 have one : ∀ p q, p < m -> q < m -> 1 <= rkT m out K p q -> ∀ (z : Ro.St), z ∈ out p -> (∀ y ∈ out q, y.1 = z.1 -> Ro.cl (Ro.rnd m out ((rkT m out K p q).toNat - 1)) y.2 ≠ Ro.cl (Ro.rnd m out ((rkT m out K p q).toNat - 1)) z.2) -> (telling out (rkT m out K) p q).isSome := fun p q hp hq hr z hz hy => by
  unfold telling
  rw [List.find?_isSome]
  refine ⟨z, hz, ?_⟩
  unfold tel
  rw [Bool.not_eq_true', List.any_eq_false]
  intro y hyb
  obtain ⟨y1, y2⟩ := List.mem_filter.1 hyb
  have y3 : y.1 = z.1 := by simpa using y2
  have y4 := hy y y1 y3
  have dy := hd q hq y y1
  have dz := hd p hp z hz
  obtain ⟨J, hJ⟩ : ∃ J, J = (rkT m out K p q).toNat - 1 := ⟨_, rfl⟩
  rw [<- hJ] at y4
  have hl := Ro.rnd_len m out J
  have e1 : (Ro.rnd m out J)[z.2.toNat]? ≠ (Ro.rnd m out J)[y.2.toNat]? := fun e => y4 (by unfold Ro.cl; rw [e])
  unfold met
  have h1 := rkT_lt m out K p q
  rcases rkT_cases m out z.2.toNat y.2.toNat K with ⟨j, hj, e, _, hmin⟩ | ⟨e, hall⟩
  ·have h2 : j <= J := by
    rcases Nat.lt_or_ge J j with h3 | h3
    ·exact absurd (hmin J h3) e1
    ·exact h3
   rw [e]
   simp only [Bool.or_eq_true, beq_iff_eq, decide_eq_true_eq, not_or]
   omega
  ·rcases rkT_cases m out p q K with ⟨i, hi, e2, _, _⟩ | ⟨e2, _⟩
   ·exact absurd (hall J (by omega)) e1
   ·omega
 refine ⟨hd, rkT_comm m out K, fun p q hp hq => ?_, fun p q => ?_, fun p q hp hq hr => ?_⟩
 ·have h1 := rkT_ne0 m out K hp hq
  have h2 := rkT_lt m out K p q
  omega
 ·have h2 := rkT_lt m out K p q
  omega
 ·rcases rkT_cases m out p q K with ⟨j, hj, e, hdf, hmin⟩ | ⟨e, _⟩
  ·obtain ⟨J, rfl⟩ : ∃ J, j = J + 1 := ⟨j - 1, by omega⟩
   have hJ : (rkT m out K p q).toNat - 1 = J := by rw [e]; omega
   have hl := Ro.rnd_len m out J
   have hl1 := Ro.rnd_len m out (J + 1)
   obtain ⟨x, hx⟩ : ∃ x, (Ro.rnd m out J)[p]? = some x := ⟨_, List.getElem?_eq_getElem (by omega)⟩
   obtain ⟨u, hu⟩ : ∃ u, (Ro.rnd m out (J + 1))[p]? = some u := ⟨_, List.getElem?_eq_getElem (by omega)⟩
   obtain ⟨v, hv⟩ : ∃ v, (Ro.rnd m out (J + 1))[q]? = some v := ⟨_, List.getElem?_eq_getElem (by omega)⟩
   have hy : (Ro.rnd m out J)[q]? = some x := by rw [<- hmin J (by omega)]; exact hx
   have hne : u ≠ v := fun h => hdf (by rw [hu, hv, h])
   have h1 := Ro.nx_eq hl hm (fun u hu => Ro.rnd_lt hu) hu hv hx hy
   have h2 : ¬ ∀ b k, Ro.leads (Ro.rnd m out J) (out p) b k ↔ Ro.leads (Ro.rnd m out J) (out q) b k := fun h => hne (h1.2 ⟨rfl, h⟩)
   by_cases h3 : ∃ z ∈ out p, ∀ y ∈ out q, y.1 = z.1 -> Ro.cl (Ro.rnd m out J) y.2 ≠ Ro.cl (Ro.rnd m out J) z.2
   ·obtain ⟨z, hz, hz2⟩ := h3
    exact .inl (one p q hp hq hr z hz (by rw [hJ]; exact hz2))
   ·by_cases h4 : ∃ z ∈ out q, ∀ y ∈ out p, y.1 = z.1 -> Ro.cl (Ro.rnd m out J) y.2 ≠ Ro.cl (Ro.rnd m out J) z.2
    ·obtain ⟨z, hz, hz2⟩ := h4
     have hc := rkT_comm m out K p q
     exact .inr (one q p hq hp (by omega) z hz (by rw [<- hc, hJ]; exact hz2))
    ·exfalso
     refine h2 fun b k => ⟨fun ⟨z, hz, e1, e2⟩ => ?_, fun ⟨z, hz, e1, e2⟩ => ?_⟩
     ·refine Classical.byContradiction fun hn => h3 ⟨z, hz, fun y hy2 ey ec => hn ⟨y, hy2, ey.trans e1, ec.trans e2⟩⟩
     ·refine Classical.byContradiction fun hn => h4 ⟨z, hz, fun y hy2 ey ec => hn ⟨y, hy2, ey.trans e1, ec.trans e2⟩⟩
  ·omega
end Di
namespace Di
open Go.RowKit Go.Maps
attribute [local go_sem ↓] Go.wp_at_zero Go.wp_at_succ
set_option maxRecDepth 100000 in
theorem lab_any (a b l : Int) (w : World) : Calls Tryz.prog 88 #[.agg #[.int .i64 a, .int .i64 b], .int .i64 l] w fun r w' => r = .returned (.int .i64 (cmpI a l)) /\ Below w.heap.size w w' := by
 obtain ⟨w1, hw1⟩ : ∃ w1, w1 = w.alloc (.cells #[.int .i64 a, .int .i64 b] 111) := ⟨_, rfl⟩
 have hb1 : Below w.heap.size w w1 := by rw [hw1]; exact (Below.refl _ _).alloc (Nat.le_refl _) _
 have hg1 : w1.heap[w.heap.size]? = some (.cells #[.int .i64 a, .int .i64 b] 111 (0, 0)) := by rw [hw1]; exact heap_alloc_new w _
 have c0 : w1.cell? ⟨w.heap.size, 0, none⟩ = some (.int .i64 a) := cell0_of hg1 rfl
 have H1 : Hid _ := And.intro hw1 (And.intro hb1 (cmpI_any a l w1))
 clear hw1 hb1 hg1
 go_enter Tryz.func88, Tryz.ntmps88
 go_upto_region 1 with fail
 rw [<- H1.out.1]
 go_wp2_with fail
 refine Calls.mono H1.out.2.2 ?_
 rintro r w2 ⟨rfl, hw2⟩
 obtain rfl := hw2.symm
 clear hw2
 go_wp2_with fail
 go_ret
 exact ⟨rfl, H1.out.2.1⟩
theorem cmpI_neg (a b : Int) : cmpI a b < 0 ↔ a < b := by unfold cmpI; split <;> (try split) <;> omega
structure BinAt (zs : List BSteps.El) (l : Int) (i j : Nat) : Prop where
 lo : ∀ (k : Nat) (z : BSteps.El), k < i -> zs[k]? = some z -> z.1 < l
 hi : ∀ (k : Nat) (z : BSteps.El), j <= k -> zs[k]? = some z -> l <= z.1
theorem bin_begin (zs : List BSteps.El) (l : Int) : BinAt zs l 0 zs.length := ⟨fun k z h => by omega, fun k z h hz => by have := (List.getElem?_eq_some_iff.1 hz).1; omega⟩
theorem BinAt.left {zs : List BSteps.El} {l : Int} {i j h : Nat} (hB : BinAt zs l i j) (hs : zs.Pairwise fun x y => x.1 <= y.1) {z : BSteps.El} (hz : zs[h]? = some z) (hl : z.1 < l) : BinAt zs l (h + 1) j := by
 refine ⟨fun k y hk hy => ?_, hB.hi⟩
 by_cases e : k = h
 ·subst e; rw [hz] at hy; cases hy; exact hl
 ·obtain ⟨a1, a2⟩ := List.getElem?_eq_some_iff.1 hy
  obtain ⟨b1, b2⟩ := List.getElem?_eq_some_iff.1 hz
  have := List.pairwise_iff_getElem.1 hs k h a1 b1 (by omega)
  rw [a2, b2] at this
  omega
theorem BinAt.right {zs : List BSteps.El} {l : Int} {i j h : Nat} (hB : BinAt zs l i j) (hs : zs.Pairwise fun x y => x.1 <= y.1) {z : BSteps.El} (hz : zs[h]? = some z) (hl : ¬ z.1 < l) : BinAt zs l i h := by
 refine ⟨hB.lo, fun k y hk hy => ?_⟩
 by_cases e : k = h
 ·subst e; rw [hz] at hy; cases hy; omega
 ·obtain ⟨a1, a2⟩ := List.getElem?_eq_some_iff.1 hy
  obtain ⟨b1, b2⟩ := List.getElem?_eq_some_iff.1 hz
  have := List.pairwise_iff_getElem.1 hs h k b1 a1 (by omega)
  rw [a2, b2] at this
  omega
set_option maxRecDepth 100000 in
set_option maxHeartbeats 4000000 in
theorem bin_any (v : Value) (zs : List BSteps.El) (l : Int) (w : World) (hv : BSteps.Has w v zs) (hs : zs.Pairwise fun x y => x.1 <= y.1) (hn : zs.length <= 100000) :
 Calls Tryz.prog 87 #[v, .int .i64 l, .func (.func 88) #[] #[]] w fun r w' => ∃ (i : Nat) (b : Bool), r = .returned (.tuple #[.int .i64 i, .bool b]) /\ i <= zs.length /\ BinAt zs l i i /\ Below w.heap.size w w' := by
 have hv0 := hv
 obtain ⟨ao, cap, rfl, _⟩ := hv0
 obtain ⟨n, hN⟩ : ∃ n, n = zs.length := ⟨_, rfl⟩
 rw [<- hN] at hn hv ⊢
 have HV : Hid (BSteps.Has w (.slice ao n cap) zs /\ n = zs.length /\ zs.Pairwise (fun x y => x.1 <= y.1) /\ BinAt zs l 0 n) := ⟨hv, hN, hs, by rw [hN]; exact bin_begin zs l⟩
 clear hv hN hs
 go_enter Tryz.func87, Tryz.ntmps87
 go_wp2_with fail
 go_loopg [9, 10] n (fun q iv jv wr => ∃ i j : Nat, q = j - i /\ i <= j /\ j <= n /\ iv = .int .i64 i /\ jv = .int .i64 j /\ BinAt zs l i j /\ Below w.heap.size w wr)
 case atStart => exact ⟨0, n, by omega, Nat.zero_le _, Nat.le_refl _, rfl, rfl, HV.out.2.2.2, Below.refl _ _⟩
 case round =>
  obtain ⟨i, j, rfl, hij, hjn, rfl, rfl, hB, hb⟩ := hrel
  obtain ⟨wq, rfl⟩ : ∃ wq, wq = wr := ⟨_, rfl⟩
  by_cases hlt : i < j
  ·obtain ⟨h, hh⟩ : ∃ h, h = (i + j) / 2 := ⟨_, rfl⟩
   have h1 : i <= h := by omega
   have h2 : h < j := by omega
   have k0 : (i : Int) < (j : Int) := by omega
   have kh : ((i : Int) + (j : Int)) / 2 = (h : Int) := by omega
   obtain ⟨z, hz⟩ : ∃ z, zs[h]? = some z := ⟨zs[h]'(by have := HV.out.2.1; omega), List.getElem?_eq_getElem _⟩
   obtain ⟨a, rfl, d0, d1⟩ := step_at (HV.out.1.below hb) hz
   have k1 : (0 : Int) <= (h : Int) := by omega
   have k2 : (h : Int) < (n : Int) := by omega
   have hB1 := fun (hl : z.1 < l) => hB.left HV.out.2.2.1 hz hl
   have hB2 := fun (hl : ¬ z.1 < l) => hB.right HV.out.2.2.1 hz hl
   obtain ⟨z1, z2⟩ := z
   simp only at d0 d1 hB1 hB2
   have hE := lab_any z1 z2 l wq
   have hcn := cmpI_neg z1 l
   obtain ⟨c, hc⟩ : ∃ c, c = cmpI z1 l := ⟨_, rfl⟩
   rw [<- hc] at hE hcn
   have HE : Hid _ := And.intro hE (And.intro hb (And.intro hB1 hB2))
   clear hE hb hB1 hB2 hB hz hc hh
   by_cases hcl : c < 0
   ·have HL : Hid (z1 < l) := hcn.1 hcl
    have k3 : decide (c < 0) = true := decide_eq_true hcl
    clear hcn
    go_wp2_with fail
    refine Calls.mono HE.out.1 ?_
    rintro r w2 ⟨rfl, hb2⟩
    have H2 : Hid _ := hb2
    clear hb2
    go_wp2_with fail
    go_roundg (j - (h + 1))
    case measure => omega
    case rel => exact ⟨h + 1, j, rfl, by omega, hjn, by go_num, rfl, HE.out.2.2.1 HL.out, HE.out.2.1.trans (H2.out.mono HE.out.2.1.size)⟩
   ·have HL : Hid (¬ z1 < l) := fun h => hcl (hcn.2 h)
    have k3 : decide (c < 0) = false := decide_eq_false hcl
    clear hcn
    go_wp2_with fail
    refine Calls.mono HE.out.1 ?_
    rintro r w2 ⟨rfl, hb2⟩
    have H2 : Hid _ := hb2
    clear hb2
    go_wp2_with fail
    go_roundg (h - i)
    case measure => omega
    case rel => exact ⟨i, h, rfl, h1, by omega, rfl, rfl, HE.out.2.2.2 HL.out, HE.out.2.1.trans (H2.out.mono HE.out.2.1.size)⟩
  ·obtain rfl : i = j := by omega
   have k0 : ¬ (i : Int) < (i : Int) := by omega
   by_cases hin : i < n
   ·obtain ⟨z, hz⟩ : ∃ z, zs[i]? = some z := ⟨zs[i]'(by have := HV.out.2.1; omega), List.getElem?_eq_getElem _⟩
    obtain ⟨a, rfl, d0, d1⟩ := step_at (HV.out.1.below hb) hz
    have k1 : (0 : Int) <= (i : Int) := by omega
    have k2 : (i : Int) < (n : Int) := by omega
    have k3 : decide ((i : Int) < (n : Int)) = true := decide_eq_true k2
    obtain ⟨z1, z2⟩ := z
    simp only at d0 d1
    have hE := lab_any z1 z2 l wq
    generalize cmpI z1 l = c at hE
    have HE : Hid _ := And.intro hE (And.intro hb hB)
    clear hE hb hB hz
    go_wp2_with fail
    refine Calls.mono HE.out.1 ?_
    rintro r w2 ⟨rfl, hb2⟩
    have H2 : Hid _ := hb2
    clear hb2
    go_wp2_with fail
    go_ret2
    exact ⟨i, _, rfl, hjn, HE.out.2.2, HE.out.2.1.trans (H2.out.mono HE.out.2.1.size)⟩
   ·have k2 : ¬ (i : Int) < (n : Int) := by omega
    have HE : Hid _ := And.intro hb hB
    clear hb hB
    go_wp2_with fail
    go_ret2
    exact ⟨i, .inl rfl, hjn, HE.out.2, HE.out.1⟩
end Di
namespace Di
open Go.RowKit Go.Maps
theorem laidOutD : laidOutB Tryz.prog = true := by kernel_rfl
def Sm (z : Int) : Prop := -1000000000000 <= z /\ z <= 1000000000000
theorem Sm.wf {z : Int} (h : Sm z) : (Lit.int .i64 z).wf = true := WalkArith.wf_i64 (by unfold Sm at h; omega)
theorem sm_nat {n : Nat} (h : n <= 1000000000000) : Sm (n : Int) := by unfold Sm; omega
theorem cellsI : Tryz.prog.cellsOf 3 = 1 := by kernel_rfl
theorem sizeTD : ∃ m, Tryz.prog.types.size = m + 1 := ⟨_, (by kernel_rfl : Tryz.prog.types.size = 301)⟩
theorem sizeT3 : ∃ m, Tryz.prog.types.size = m + 1 + 1 + 1 := ⟨301 - 3, (by kernel_rfl : Tryz.prog.types.size = 301 - 3 + 1 + 1 + 1)⟩
theorem zeroID (w : World) : (zeroValue 3).run Tryz.prog w = .ok (.int .i64 0) w := by kernel_rfl
theorem rowE : (108 : TypeId) < Tryz.prog.types.size := of_decide_eq_true (by kernel_rfl)
theorem wideE : (match Tryz.prog.underlying 108 with | some (.array _ _) | some (.struct _) => true | _ => false) = true := by kernel_rfl
set_option maxRecDepth 100000 in
theorem lawE : Keyed Tryz.prog 108 := Keyed.of_law (deep_law_laid laidOutD (m := 3) (by omega) rowE (by kernel_rfl) wideE)
theorem rowP : (72 : TypeId) < Tryz.prog.types.size := of_decide_eq_true (by kernel_rfl)
theorem wideP : (match Tryz.prog.underlying 72 with | some (.array _ _) | some (.struct _) => true | _ => false) = true := by kernel_rfl
set_option maxRecDepth 100000 in
theorem lawP : Keyed Tryz.prog 72 := Keyed.of_law (deep_law_laid laidOutD (m := 3) (by omega) rowP (by kernel_rfl) wideP)
structure En where
 op : Int
 lb : Int
 a : Nat
 b : Nat
 deriving DecidableEq
def En.v (e : En) : Value := .agg #[.int .i64 e.op, .int .i64 e.lb, .int .i64 e.a, .int .i64 e.b]
def En.c (e : En) : List Value := [.int .i64 e.op, .int .i64 e.lb, .int .i64 e.a, .int .i64 e.b]
def En.k (e : En) : Lit := .string (keyBytes [.int .i64 e.op, .int .i64 e.lb, .int .i64 e.a, .int .i64 e.b])
structure En.Sml (e : En) : Prop where
 o : Sm e.op
 l : Sm e.lb
 a : e.a <= 1000000000000
 b : e.b <= 1000000000000
theorem cellsEn : Tryz.prog.cellsOf 108 = 4 := by kernel_rfl
theorem cellsNd : Tryz.prog.cellsOf 36 = 2 := by kernel_rfl
theorem keyTypeE : Tryz.prog.keyType 108 = true := by kernel_rfl
set_option maxRecDepth 100000 in
theorem keyOfE {e : En} (h : e.Sml) : keyOf Tryz.prog 108 e.v = some e.k := by
 obtain ⟨m, hm⟩ := sizeT3
 have h1 := h.o.wf
 have h2 := h.l.wf
 have h3 := (sm_nat h.a).wf
 have h4 := (sm_nat h.b).wf
 have hform : e.v.formed Tryz.prog 108 = true := by simp [En.v, Value.formed, Tryz.underlying108, cellsEn]
 unfold keyOf
 rw [Tryz.underlying108]
 simp only [keyTypeE, hform, Bool.and_self, if_true]
 rw [hm]
 simp [Program.keyLits, Tryz.underlying108, Tryz.underlying36, Tryz.underlying3, cellsEn, cellsNd, cellsI, En.v, Value.cells, h1, h2, h3, h4, En.k]
 rw [if_pos (fun i hi => by match i, hi with | 0, _ => simp | 1, _ => simp)]
 rfl
theorem En.k_inj {e f : En} (he : e.Sml) (hf : f.Sml) (h : e.k = f.k) : e = f := by
 have h1 := keyOfE he
 have h2 := keyOfE hf
 rw [<- h] at h2
 have h3 := lawE.inj h1 h2
 obtain ⟨o, l, a, b⟩ := e
 obtain ⟨o', l', a', b'⟩ := f
 unfold En.v at h3
 simp only [Value.agg.injEq, Array.mk.injEq, List.cons.injEq, Value.int.injEq, true_and, and_true, Int.natCast_inj] at h3
 obtain ⟨r1, r2, r3, r4⟩ := h3
 subst r1; subst r2; subst r3; subst r4
 rfl
theorem En.k_key (e : En) : WideAt.IsKeyLit e.k := by unfold En.k; exact trivial
def prV (p q : Nat) : Value := .agg #[.int .i64 p, .int .i64 q]
def prK (p q : Nat) : Lit := .string (keyBytes [.int .i64 p, .int .i64 q])
theorem cellsPr : Tryz.prog.cellsOf 72 = 2 := by kernel_rfl
theorem keyTypeP : Tryz.prog.keyType 72 = true := by kernel_rfl
set_option maxRecDepth 100000 in
theorem keyOfP {p q : Nat} (hp : p <= 1000000) (hq : q <= 1000000) : keyOf Tryz.prog 72 (prV p q) = some (prK p q) := by
 obtain ⟨m, hm⟩ := sizeTD
 have h1 := (sm_nat (n := p) (by omega)).wf
 have h2 := (sm_nat (n := q) (by omega)).wf
 have hform : (prV p q).formed Tryz.prog 72 = true := by simp [prV, Value.formed, Tryz.underlying72, cellsPr]
 unfold keyOf
 rw [Tryz.underlying72]
 simp only [keyTypeP, hform, Bool.and_self, if_true]
 rw [hm]
 simp [Program.keyLits, Tryz.underlying72, Tryz.underlying3, cellsPr, cellsI, prV, Value.cells, h1, h2, prK]
theorem prK_inj {p q p' q' : Nat} (hp : p <= 1000000) (hq : q <= 1000000) (hp' : p' <= 1000000) (hq' : q' <= 1000000) (h : prK p q = prK p' q') : p = p' /\ q = q' := by
 have h1 := keyOfP hp hq
 have h2 := keyOfP hp' hq'
 rw [<- h] at h2
 have h3 := lawP.inj h1 h2
 unfold prV at h3
 simp only [Value.agg.injEq, Array.mk.injEq, List.cons.injEq, Value.int.injEq, true_and, and_true, Int.natCast_inj] at h3
 exact h3
theorem prK_key (p q : Nat) : WideAt.IsKeyLit (prK p q) := by unfold prK; exact trivial
structure MapE (D : DataW Unit) (L : List En) : Prop where
 yes : ∀ (i : Nat) (e : En), L[i]? = some e -> Maps.has D e.k = true /\ D.atKey e.k (.lit (.int .i64 0)) = .lit (.int .i64 ((i + 1 : Nat) : Int))
 no : ∀ e : En, e.Sml -> e ∉ L -> Maps.has D e.k = false
theorem MapE.nil : MapE (.map []) [] := ⟨fun i e h => by simp at h, fun e _ _ => rfl⟩
theorem MapE.snoc {D : DataW Unit} {L : List En} (h : MapE D L) (hD : IsMap D) (hL : ∀ e ∈ L, e.Sml) (e : En) (he : e.Sml) (hn : e ∉ L) : MapE (D.put e.k (.lit (.int .i64 ((L.length + 1 : Nat) : Int)))) (L ++ [e]) := by
 refine ⟨fun i f hf => ?_, fun f hw hf => ?_⟩
 ·rcases Nat.lt_or_ge i L.length with hi | hi
  ·rw [List.getElem?_append_left hi] at hf
   have hm := List.mem_of_getElem? hf
   have hne : f.k ≠ e.k := fun r => hn (En.k_inj (hL f hm) he r ▸ hm)
   rw [has_put_other hne, atKey_put_other hne]
   exact h.yes i f hf
  ·rw [List.getElem?_append_right hi] at hf
   have hi0 : i - L.length = 0 := by
    have := (List.getElem?_eq_some_iff.1 hf).1
    simp at this; omega
   rw [hi0] at hf
   simp at hf
   subst hf
   have : i = L.length := by omega
   subst this
   exact ⟨has_put_same hD (En.k_key _) _, atKey_put_same hD (En.k_key _) _ _⟩
 ·have hne : f.k ≠ e.k := fun r => hf (by rw [En.k_inj hw he r]; simp)
  rw [has_put_other hne]
  exact h.no f hw fun hm => hf (by simp [hm])
def MapP (D : DataW Unit) (f : Nat -> Nat -> Option Nat) : Prop := ∀ p q, p <= 1000000 -> q <= 1000000 -> match f p q with
 | some n => Maps.has D (prK p q) = true /\ D.atKey (prK p q) (.lit (.int .i64 0)) = .lit (.int .i64 (n : Int))
 | none => Maps.has D (prK p q) = false
theorem MapP.put {D : DataW Unit} {f : Nat -> Nat -> Option Nat} (h : MapP D f) (hD : IsMap D) {p q n : Nat} (hp : p <= 1000000) (hq : q <= 1000000) : MapP (D.put (prK p q) (.lit (.int .i64 (n : Int)))) (fun a b => if a = p /\ b = q then some n else f a b) := fun a b ha hb => by
 by_cases e : a = p /\ b = q
 ·obtain ⟨rfl, rfl⟩ := e
  simp only [and_self, if_true]
  exact ⟨has_put_same hD (prK_key _ _) _, atKey_put_same hD (prK_key _ _) _ _⟩
 ·simp only [if_neg e]
  have hne : prK a b ≠ prK p q := fun r => e (prK_inj ha hb hp hq r)
  have h1 := h a b ha hb
  rw [has_put_other hne, atKey_put_other hne]
  exact h1
end Di
namespace Di
open Go.RowKit Go.Maps
def z0 : En := ⟨0, 0, 0, 0⟩
def eC : List En -> List Value
 | [] => []
 | e :: r => e.c ++ eC r
theorem eC_snoc (L : List En) (e : En) : eC (L ++ [e]) = eC L ++ e.c := by
 induction L with
 | nil => simp [eC]
 | cons a r ih => simp [eC, ih]
theorem eC_at : ∀ (L : List En) (i : Nat) (e : En), L[i]? = some e -> ∀ k, k < 4 -> (eC L)[i * 4 + k]? = e.c[k]?
 | [], _, _, h, _, _ => by simp at h
 | a :: r, 0, e, h, k, hk => by
   simp at h; subst h
   rw [eC, Nat.zero_mul, Nat.zero_add, List.getElem?_append_left (by simp [En.c]; omega)]
 | a :: r, i + 1, e, h, k, hk => by
   have hl : a.c.length = 4 := rfl
   rw [eC, List.getElem?_append_right (by omega), <- eC_at r i e (by simpa using h) k hk]
   congr 1
   omega
structure BkS (w : World) (b nm : Nat) (ve vs : Value) (L : List En) (S : List Int) : Prop where
 cell : w.heap[b]? = some (.cells #[.map (some nm), ve, vs] 77 (0, 0))
 row : w.ownsRow 0 108 4 ve (L.length + 1) (eC (z0 :: L))
 siz : OwnI w 0 vs S
 map : ∃ D, w.ownsMap (H := Unit) Tryz.prog 108 (plainElem Tryz.prog 3) nm L.length D /\ MapE D L
 len : S.length = L.length + 1
 sml : ∀ e ∈ L, e.Sml
 big : L.length <= 100000000000
 lo : ∀ z ∈ S, 0 <= z /\ z <= 5000
def Foot (b nm : Nat) (ve vs : Value) (i : Nat) : Prop := i = b \/ i = nm \/ ve.ownBlock = some i \/ vs.ownBlock = some i
theorem BkS.foot_lt {w : World} {b nm : Nat} {ve vs : Value} {L : List En} {S : List Int} (h : BkS w b nm ve vs L S) {i : Nat} (hi : Foot b nm ve vs i) : i < w.heap.size := by
 rcases hi with rfl | rfl | hi | hi
 ·exact t_lt h.cell
 ·obtain ⟨D, h1, _⟩ := h.map; exact h1.lt
 ·exact (h.row.lt i hi).2
 ·exact (h.siz.lt i hi).2
theorem map_at {w w' : World} {k : TypeId} {R : Value -> Option (DataW Unit × List MemPlace)} {b n : Nat} {D : DataW Unit} (h : w.ownsMap Tryz.prog k R b n D) (hb : w'.heap[b]? = w.heap[b]?) : w'.ownsMap Tryz.prog k R b n D := by
 obtain ⟨es, clock, h1, h2⟩ := h
 exact ⟨es, clock, hb.trans h1, h2⟩
theorem BkS.at {w w' : World} {b nm : Nat} {ve vs : Value} {L : List En} {S : List Int} (h : BkS w b nm ve vs L S) (hb : ∀ i, Foot b nm ve vs i -> w'.heap[i]? = w.heap[i]?) : BkS w' b nm ve vs L S := by
 obtain ⟨D, h1, h2⟩ := h.map
 exact ⟨by rw [hb b (.inl rfl)]; exact h.cell, trow_at h.row fun i hi => hb i (.inr (.inr (.inl hi))), trow_at h.siz fun i hi => hb i (.inr (.inr (.inr hi))), ⟨D, map_at h1 (hb nm (.inr (.inl rfl))), h2⟩, h.len, h.sml, h.big, h.lo⟩
theorem BkS.below {w w' : World} {b nm : Nat} {ve vs : Value} {L : List En} {S : List Int} (h : BkS w b nm ve vs L S) (hb : Below w.heap.size w w') : BkS w' b nm ve vs L S := h.at fun i hi => hb.block i (h.foot_lt hi)
theorem cells_ne {w : World} {i j : Nat} {c c' : Array Value} {s t : TypeId} {f f' : Nat × Nat} (hi : w.heap[i]? = some (.cells c s f)) (hj : w.heap[j]? = some (.cells c' t f')) (hne : s ≠ t) : i ≠ j := by
 rintro rfl
 rw [hi] at hj
 injection hj with hj
 injection hj with _ h2
 exact hne h2
theorem map_ne {w : World} {i b : Nat} {c : Array Value} {s : TypeId} {f : Nat × Nat} {k : TypeId} {R : Value -> Option (DataW Unit × List MemPlace)} {n : Nat} {D : DataW Unit} (hi : w.heap[i]? = some (.cells c s f)) (h : w.ownsMap Tryz.prog k R b n D) : i ≠ b := by
 rintro rfl
 obtain ⟨es, clock, h1, _⟩ := h
 rw [hi] at h1
 cases h1
set_option maxRecDepth 100000 in
theorem look_yes {w : World} {nm n : Nat} {D : DataW Unit} {L : List En} (ho : w.ownsMap (H := Unit) Tryz.prog 108 (plainElem Tryz.prog 3) nm n D) (hm : MapE D L) {i : Nat} {e : En} (hi : L[i]? = some e) (he : e.Sml) : (Instr.lookup 74 (.map (some nm)) e.v true).run Tryz.prog w = .ok (.tuple #[.int .i64 ((i + 1 : Nat) : Int), .bool true]) w := by
 obtain ⟨hy1, hy2⟩ := hm.yes i e hi
 obtain ⟨v, ps, hrun, hv⟩ := ho.look_ok lawE Tryz.underlying74 (zeroID w) (plainElem_int (a := 0) Tryz.underlying3 (by decide)) (keyOfE he)
 obtain ⟨c, rfl, hc, _⟩ := plainElem_int_inv Tryz.underlying3 hv
 have hc1 := congrArg Prod.fst hc
 simp only [hy2] at hc1
 injection hc1 with hc1
 injection hc1 with _ hc1
 rw [hrun, hy1, <- hc1]
set_option maxRecDepth 100000 in
theorem look_no {w : World} {nm n : Nat} {D : DataW Unit} {L : List En} (ho : w.ownsMap (H := Unit) Tryz.prog 108 (plainElem Tryz.prog 3) nm n D) (hm : MapE D L) {e : En} (hi : e ∉ L) (he : e.Sml) : (Instr.lookup 74 (.map (some nm)) e.v true).run Tryz.prog w = .ok (.tuple #[.int .i64 0, .bool false]) w := by
 have hno := hm.no e he hi
 obtain ⟨v, ps, hrun, hv⟩ := ho.look_ok lawE Tryz.underlying74 (zeroID w) (plainElem_int (a := 0) Tryz.underlying3 (by decide)) (keyOfE he)
 obtain ⟨c, rfl, hc, _⟩ := plainElem_int_inv Tryz.underlying3 hv
 have hc1 := congrArg Prod.fst hc
 simp only [atKey_of_not_has hno] at hc1
 injection hc1 with hc1
 injection hc1 with _ hc1
 rw [hrun, hno, <- hc1]
structure BkB (w : World) (b : Nat) (L : List En) (S : List Int) (F : Nat -> Prop) : Prop where
 some : ∃ nm ve vs, BkS w b nm ve vs L S /\ ∀ i, Foot b nm ve vs i -> F i
 lt : ∀ i, F i -> i < w.heap.size
theorem BkB.kept {w w' : World} {b : Nat} {L : List En} {S : List Int} {F G : Nat -> Prop} (h : BkB w b L S F) (hk : Kept G w w') (hG : ∀ i, F i -> ¬ G i) : BkB w' b L S F := by
 obtain ⟨⟨nm, ve, vs, h1, h2⟩, h3⟩ := h
 exact ⟨⟨nm, ve, vs, h1.at fun i hi => hk.block i (h3 i (h2 i hi)) (hG i (h2 i hi)), h2⟩, fun i hi => Nat.lt_of_lt_of_le (h3 i hi) hk.size⟩
theorem BkB.below {w w' : World} {b : Nat} {L : List En} {S : List Int} {F : Nat -> Prop} (h : BkB w b L S F) (hb : Below w.heap.size w w') : BkB w' b L S F := h.kept (G := fun _ => False) (.of_below hb) fun _ _ h => h
theorem three_cells {w : World} {b : Nat} {x y z : Value} {t : TypeId} (h : w.heap[b]? = some (.cells #[x, y, z] t (0, 0))) : w.cell? ⟨b, 0, none⟩ = some x /\ w.cell? ⟨b, 1, none⟩ = some y /\ w.cell? ⟨b, 2, none⟩ = some z := ⟨cell0_of h rfl, cell0_of h rfl, cell0_of h rfl⟩
theorem four_cellsD {w : World} {b : Nat} {x y z u : Value} {t : TypeId} (h : w.heap[b]? = some (.cells #[x, y, z, u] t (0, 0))) : w.cell? ⟨b, 0, none⟩ = some x /\ w.cell? ⟨b, 1, none⟩ = some y /\ w.cell? ⟨b, 2, none⟩ = some z /\ w.cell? ⟨b, 3, none⟩ = some u := ⟨cell0_of h rfl, cell0_of h rfl, cell0_of h rfl, cell0_of h rfl⟩
end Di
namespace Di
open Go.RowKit Go.Maps
attribute [local go_sem ↓] Go.wp_at_zero Go.wp_at_succ
theorem hasS_drop {w : World} {av : Option Addr} {M cv : Nat} {zs : List BSteps.El} (h : BSteps.Has w (.slice av M cv) zs) (f c : Nat) (hM : M = zs.length) : BSteps.Has w (.slice (Option.map (fun x => x.add (f * 2)) av) (M - f) c) (zs.drop f) := by
 obtain ⟨ao, cap, he, hc⟩ := h
 injection he with e1 e2 e3
 subst e1
 refine ⟨_, c, by rw [List.length_drop, hM], fun j u hj => ?_⟩
 have hl : j < (zs.drop f).length * 2 := by have := (List.getElem?_eq_some_iff.1 hj).1; rw [BSteps.C_len] at this; exact this
 obtain ⟨z, hz⟩ : ∃ z, (zs.drop f)[j / 2]? = some z := ⟨_, List.getElem?_eq_getElem (by omega)⟩
 have h1 := BSteps.C_at _ (j / 2) z hz (j % 2) (Nat.mod_lt _ (by decide))
 rw [show j / 2 * 2 + j % 2 = j by omega, hj] at h1
 rw [List.getElem?_drop] at hz
 have h2 := BSteps.C_at _ (f + j / 2) z hz (j % 2) (Nat.mod_lt _ (by decide))
 rw [<- h1, show (f + j / 2) * 2 + j % 2 = f * 2 + j by omega] at h2
 obtain ⟨a, rfl, hca⟩ := hc _ _ h2
 exact ⟨_, rfl, by rw [Addr.add_add]; exact hca⟩
structure St4 (w : World) (t b tm gs T m : Nat) (rb : Nat -> Nat) (out : Nat -> List Ro.St) (rk : Nat -> Nat -> Int) : Prop where
 box : w.heap[t]? = some (.cells #[.pointer (some ⟨b, 0, none⟩), .slice (some ⟨gs, 0, none⟩) m m, .slice (some ⟨T, 0, none⟩) m m, .map (some tm)] 55 (0, 0))
 row : ∀ i, i < m -> ∃ a c, (out i).length <= c /\ w.cell? ⟨gs, i, none⟩ = some (.slice a (out i).length c) /\ BSteps.Has w (.slice a (out i).length c) (out i)
 rks : RkAt w T m rb rk
theorem St4.below {w w' : World} {t b tm gs T m : Nat} {rb : Nat -> Nat} {out : Nat -> List Ro.St} {rk : Nat -> Nat -> Int} (h : St4 w t b tm gs T m rb out rk) (hb : Below w.heap.size w w') : St4 w' t b tm gs T m rb out rk :=
 ⟨(hb.block _ (t_lt h.box)).trans h.box, fun i hi => by
  obtain ⟨a, c, h1, h2, h3⟩ := h.row i hi
  exact ⟨a, c, h1, cell_up h2 hb, h3.below hb⟩,
  ⟨fun p hp => cell_up (h.rks.tab p hp) hb, fun p hp => by
   obtain ⟨cs, h1, h2⟩ := h.rks.row p hp
   exact ⟨cs, (hb.block _ (t_lt h1)).trans h1, h2⟩, h.rks.ne, h.rks.tn⟩⟩
structure Rw (m : Nat) (out : Nat -> List Ro.St) : Prop where
 len : ∀ i, i < m -> (out i).length <= 10000
 rise : ∀ i, i < m -> (out i).Pairwise fun x y => x.1 <= y.1
 lab : ∀ i, i < m -> ∀ z ∈ out i, 0 <= z.1 /\ z.1 <= 300
theorem has_take {w : World} {av : Option Addr} {M cv n c : Nat} {zs : List BSteps.El} (h : BSteps.Has w (.slice av M cv) zs) (hM : M = zs.length) (hn : n <= M) : BSteps.Has w (.slice av n c) (zs.take n) := by
 obtain ⟨ao, cap, he, hc⟩ := h
 injection he with e1 e2 e3
 subst e1
 refine ⟨_, c, by rw [List.length_take]; congr 1; omega, fun j u hj => ?_⟩
 have hl : j < (zs.take n).length * 2 := by have := (List.getElem?_eq_some_iff.1 hj).1; rw [BSteps.C_len] at this; exact this
 rw [List.length_take] at hl
 obtain ⟨z, hz⟩ : ∃ z, zs[j / 2]? = some z := ⟨_, List.getElem?_eq_getElem (by omega)⟩
 have hz' : (zs.take n)[j / 2]? = some z := by rw [List.getElem?_take_of_lt (by omega)]; exact hz
 have h1 := BSteps.C_at _ (j / 2) z hz' (j % 2) (Nat.mod_lt _ (by decide))
 have h2 := BSteps.C_at _ (j / 2) z hz (j % 2) (Nat.mod_lt _ (by decide))
 rw [show j / 2 * 2 + j % 2 = j by omega] at h1 h2
 rw [hj] at h1
 rw [<- h1] at h2
 exact hc _ _ h2
theorem byl_cut {zs : List BSteps.El} {x : Int} {i j : Nat} (hi : BinAt zs x i i) (hj : BinAt zs (x + 1) j j) (hil : i <= zs.length) (hjl : j <= zs.length) : i <= j /\ zs.filter (fun y => y.1 == x) = (zs.drop i).take (j - i) := by
 have hij : i <= j := by
  rcases Nat.lt_or_ge j i with h | h
  ·have h1 := hi.lo j _ h (List.getElem?_eq_getElem (by omega))
   have h2 := hj.hi j _ (Nat.le_refl _) (List.getElem?_eq_getElem (by omega))
   omega
  ·exact h
 refine ⟨hij, ?_⟩
 have e1 : zs = zs.take i ++ ((zs.drop i).take (j - i) ++ zs.drop j) := by
  have e2 : zs.drop j = (zs.drop i).drop (j - i) := by rw [List.drop_drop]; congr 1; omega
  rw [e2, List.take_append_drop, List.take_append_drop]
 have f1 : (zs.take i).filter (fun y => y.1 == x) = [] := List.filter_eq_nil_iff.2 fun z hz => by
  obtain ⟨k, hk, rfl⟩ := List.mem_iff_getElem.1 hz
  rw [List.length_take] at hk
  have := hi.lo k (zs[k]'(by omega)) (by omega) (List.getElem?_eq_getElem _)
  rw [List.getElem_take]
  simp; omega
 have f2 : (zs.drop j).filter (fun y => y.1 == x) = [] := List.filter_eq_nil_iff.2 fun z hz => by
  obtain ⟨k, hk, rfl⟩ := List.mem_iff_getElem.1 hz
  rw [List.length_drop] at hk
  have := hj.hi (j + k) (zs[j + k]'(by omega)) (by omega) (List.getElem?_eq_getElem _)
  rw [List.getElem_drop]
  simp; omega
 have f3 : ((zs.drop i).take (j - i)).filter (fun y => y.1 == x) = (zs.drop i).take (j - i) := List.filter_eq_self.2 fun z hz => by
  obtain ⟨k, hk, rfl⟩ := List.mem_iff_getElem.1 hz
  rw [List.length_take, List.length_drop] at hk
  have h1 := hi.hi (i + k) (zs[i + k]'(by omega)) (by omega) (List.getElem?_eq_getElem _)
  have h2 := hj.lo (i + k) (zs[i + k]'(by omega)) (by omega) (List.getElem?_eq_getElem _)
  rw [List.getElem_take, List.getElem_drop]
  simp; omega
 have e3 := congrArg (List.filter fun y : BSteps.El => y.1 == x) e1
 rw [List.filter_append, List.filter_append, f1, f2, f3] at e3
 simpa using e3
def RowSt (w : World) (gs i : Nat) (zs : List Ro.St) (W : World) : Prop := ∃ a c, w.cell? ⟨gs, i, none⟩ = some (.slice a zs.length c) /\ BSteps.Has W (.slice a zs.length c) zs
def ByAt (w : World) (gs i : Nat) (zs : List Ro.St) (v : Value) (ys : List Ro.St) : Prop := ∀ W, RowSt w gs i zs W -> BSteps.Has W v ys
set_option maxRecDepth 100000 in
set_option maxHeartbeats 4000000 in
theorem by_any {t b tm gs T m : Nat} {rb : Nat -> Nat} {out : Nat -> List Ro.St} {rk : Nat -> Nat -> Int} (hR : Rw m out) (i : Nat) (x : Int) (w : World) (hi : i < m) (hx : 0 <= x /\ x <= 300) (hS : St4 w t b tm gs T m rb out rk) :
 Calls Tryz.prog 62 #[.pointer (some ⟨t, 0, none⟩), .int .i64 (i : Int), .int .i64 x] w fun r w' => ∃ av cv, r = .returned (.slice av (byl out i x).length cv) /\ ByAt w gs i (out i) (.slice av (byl out i x).length cv) (byl out i x) /\ Below w.heap.size w w' := by
 obtain ⟨a, c, hcap, hcell, hH⟩ := hS.row i hi
 obtain ⟨c0, c1, c2, c3⟩ := four_cellsD hS.box
 have hl := hR.len i hi
 have hB1 := fun W (hb : Below w.heap.size w W) => bin_any _ (out i) x W (hH.below hb) (hR.rise i hi) (by omega)
 have hB2 := fun W (hb : Below w.heap.size w W) => bin_any _ (out i) (x + 1) W (hH.below hb) (hR.rise i hi) (by omega)
 obtain ⟨M, hM⟩ : ∃ M, M = (out i).length := ⟨_, rfl⟩
 have e0 := hcell
 rw [<- hM] at hB1 hB2 e0 hcap
 have H : Hid _ := And.intro hB1 (And.intro hB2 (And.intro hM (And.intro hH (And.intro hcap hcell))))
 have q0 : (0 : Int) <= (i : Int) := by omega
 have q1 : (i : Int) < (m : Int) := by omega
 have q2 : IntKind.i64.wrap (x + 1) = x + 1 := by rw [IntKind.wrap_i64]; omega
 obtain ⟨N, hN⟩ : ∃ N, N = (byl out i x).length := ⟨_, rfl⟩
 rw [<- hN]
 have HN : Hid _ := hN
 clear hB1 hB2 hM hH hcap hS hcell hl hN
 go_enter Tryz.func62, Tryz.ntmps62
 go_wp2_with fail
 refine Calls.mono (H.out.1 _ (Below.refl _ _)) ?_
 rintro r w2 ⟨f, fb, rfl, hf, hBf, hb2⟩
 have H2 : Hid _ := And.intro hBf (And.intro hb2 hf)
 clear hBf hb2 hf
 go_wp2_with fail
 refine Calls.mono (H.out.2.1 _ H2.out.2.1) ?_
 rintro r w3 ⟨g, gb, rfl, hg, hBg, hb3⟩
 have hM9 := H.out.2.2.1
 obtain ⟨hfg, hcut⟩ := byl_cut H2.out.1 hBg (by have := H2.out.2.2; omega) (by omega)
 have k0 : (0 : Int) <= (f : Int) := by omega
 have k1 : (f : Int) <= (g : Int) := by omega
 have k2 : (g : Int) <= (c : Int) := by have := H.out.2.2.2.2.1; omega
 have H3 : Hid _ := And.intro hcut (And.intro (H2.out.2.1.trans (hb3.mono H2.out.2.1.size)) (And.intro hg hfg))
 clear hBg hb3 hg hcut hfg hM9
 have hlen : N = g - f := by rw [HN.out]; unfold byl; rw [H3.out.1]; have := H3.out.2.2; have := H.out.2.2.1; simp; omega
 have HL : Hid _ := And.intro hlen trivial
 clear hlen e0 c0 c1 c2 c3
 go_wp2_with fail
 ·go_ret
  obtain ⟨g1, g2, g3, g4⟩ := H3.out
  have g5 := H.out.2.2.2.2.1
  have g6 := H2.out.2.2
  refine ⟨a, 0, by rw [HL.out.1]; rfl, ?_, g2⟩
  have e1 : g - f = 0 := by omega
  rw [HL.out.1, e1]
  intro W hW
  have e2 : byl out i x = [] := by unfold byl; rw [g1, e1]; rfl
  rw [e2]
  exact ⟨a, 0, rfl, fun j u hj => by simp [BSteps.C] at hj⟩
 ·go_ret
  obtain ⟨g1, g2, g3, g4⟩ := H3.out
  refine ⟨Option.map (fun x => x.add (f * 2)) a, c - f, by rw [HL.out.1]; rfl, ?_, g2⟩
  rw [HL.out.1]
  intro W hW
  obtain ⟨a', c', h1, h2⟩ := hW
  rw [H.out.2.2.2.2.2] at h1
  injection h1 with h1
  injection h1 with h1 _ h3
  subst h1; subst h3
  have h4 := hasS_drop h2 f (c - f) rfl
  have h5 := has_take (n := g - f) (c := c - f) h4 (by rw [List.length_drop]) (by have := H.out.2.2.1; omega)
  unfold byl
  rw [g1]
  exact h5
end Di
namespace Di
open Go.RowKit Go.Maps
attribute [local go_sem ↓] Go.wp_at_zero Go.wp_at_succ
structure MetS (W : World) (b1 b2 g m : Nat) (k : Int) (f : Nat -> Int) : Prop where
 c1 : W.cell? ⟨b1, 0, none⟩ = some (.slice (some ⟨g, 0, none⟩) m m)
 c2 : W.cell? ⟨b2, 0, none⟩ = some (.int .i64 k)
 cs : ∀ q, q < m -> W.cell? ⟨g, q, none⟩ = some (.int .i64 (f q))
theorem MetS.below {W W' : World} {b1 b2 g m : Nat} {k : Int} {f : Nat -> Int} (h : MetS W b1 b2 g m k f) (hb : Below W.heap.size W W') : MetS W' b1 b2 g m k f := ⟨cell_up h.c1 hb, cell_up h.c2 hb, fun q hq => cell_up (h.cs q hq) hb⟩
def metB (k : Int) (f : Nat -> Int) (z : BSteps.El) : Bool := f z.2.toNat == -1 || decide (k <= f z.2.toNat)
set_option maxRecDepth 100000 in
set_option maxHeartbeats 1000000 in
theorem met_any (b1 b2 g m : Nat) (k : Int) (f : Nat -> Int) (z : BSteps.El) (W : World) (hS : MetS W b1 b2 g m k f) (hz : 0 <= z.2 /\ z.2 < (m : Int)) :
 Calls Tryz.prog 82 (#[.agg #[.int .i64 z.1, .int .i64 z.2]] ++ #[.pointer (some ⟨b1, 0, none⟩), .pointer (some ⟨b2, 0, none⟩)]) W fun r w' => r = .returned (.bool (metB k f z)) /\ Below W.heap.size W w' := by
 obtain ⟨l, to'⟩ := z
 obtain ⟨q, rfl⟩ : ∃ q : Nat, to' = (q : Int) := ⟨to'.toNat, by simp only at hz; omega⟩
 simp only at hz
 have hq : q < m := by omega
 obtain ⟨w1, hw1⟩ : ∃ w1, w1 = W.alloc (.cells #[.int .i64 l, .int .i64 (q : Int)] 111) := ⟨_, rfl⟩
 have hb1 : Below W.heap.size W w1 := by rw [hw1]; exact (Below.refl _ _).alloc (Nat.le_refl _) _
 have hg1 : w1.heap[W.heap.size]? = some (.cells #[.int .i64 l, .int .i64 (q : Int)] 111 (0, 0)) := by rw [hw1]; exact heap_alloc_new W _
 have x1 : w1.cell? ⟨W.heap.size, 1, none⟩ = some (.int .i64 (q : Int)) := cell0_of hg1 rfl
 have hS1 := hS.below hb1
 have c1 := hS1.c1
 have c2 := hS1.c2
 have c3 := hS1.cs q hq
 have p0 : (0 : Int) <= (q : Int) := by omega
 have p1 : (q : Int) < (m : Int) := by omega
 obtain ⟨x, hx⟩ : ∃ x, x = f q := ⟨_, rfl⟩
 have hm : metB k f (l, (q : Int)) = (x == -1 || decide (k <= x)) := by unfold metB; simp [hx]
 rw [<- hx] at c3
 rw [hm]
 have H : Hid _ := And.intro hw1 hb1
 clear hw1 hb1 hg1 hS hS1 hx hm hz hq
 by_cases h1 : x = -1
 ·subst h1
  go_enter Tryz.func82, Tryz.ntmps82
  go_upto_region 1 with fail
  rw [<- H.out.1]
  go_quiet (fail)
  all_goals
   go_wp2_with fail
   go_ret
   exact ⟨rfl, below_drewN H.out.2 _⟩
 ·have d1 : decide (x = -1) = false := decide_eq_false h1
  have d2 : (x == -1) = false := by simpa using h1
  rw [d2, Bool.false_or]
  go_enter Tryz.func82, Tryz.ntmps82
  go_upto_region 1 with fail
  rw [<- H.out.1]
  go_quiet (fail)
  all_goals
   go_wp2_with fail
   go_ret
   exact ⟨rfl, below_drewN H.out.2 _⟩
theorem take_snocD {zs : List BSteps.El} {j : Nat} {z : BSteps.El} (h : zs[j]? = some z) : zs.take (j + 1) = zs.take j ++ [z] := by rw [List.take_add_one, h]; rfl
structure MetL (w : World) (v : Value) (zs : List BSteps.El) (b1 b2 g m : Nat) (k : Int) (f : Nat -> Int) : Prop where
 has : BSteps.Has w v zs
 met : MetS w b1 b2 g m k f
 rng : ∀ z ∈ zs, 0 <= z.2 /\ z.2 < (m : Int)
 len : zs.length <= 1000000
def metF (b1 b2 : Nat) : Value := .func (.func 82) #[] #[.pointer (some ⟨b1, 0, none⟩), .pointer (some ⟨b2, 0, none⟩)]
set_option maxRecDepth 100000 in
set_option maxHeartbeats 4000000 in
theorem idx_any (v : Value) (zs : List BSteps.El) (b1 b2 g m : Nat) (k : Int) (f : Nat -> Int) (w : World) (hL : MetL w v zs b1 b2 g m k f) :
 Calls Tryz.prog 115 #[v, metF b1 b2] w fun r w' => Below w.heap.size w w' /\ ((∃ i : Nat, r = .returned (.int .i64 i) /\ zs.any (metB k f) = true) \/ (r = .returned (.int .i64 (-1)) /\ zs.any (metB k f) = false)) := by
 have hv := hL.has
 obtain ⟨ao, cap, rfl, hc⟩ := hv
 obtain ⟨n, hN⟩ : ∃ n, n = zs.length := ⟨_, rfl⟩
 have hn := hL.len
 have hA := fun (z : BSteps.El) (W : World) (hz : z ∈ zs) (hb : Below w.heap.size w W) => met_any b1 b2 g m k f z W (hL.met.below hb) (hL.rng z hz)
 have hH := hL.has
 rw [<- hN] at hn hH ⊢
 obtain ⟨B, hB⟩ : ∃ B, B = zs.any (metB k f) := ⟨_, rfl⟩
 rw [<- hB]
 have H : Hid _ := And.intro hH (And.intro hA (And.intro hN hB))
 have hE : Enters Tryz.prog 82 := enters_of Tryz.func82 (by kernel_rfl) rfl
 unfold Enters at hE
 clear hc hA hN hL hH hB
 unfold metF
 go_enter Tryz.func115, Tryz.ntmps115
 go_wp2_with fail
 go_loopg [8] n (fun q iv wr => ∃ j : Nat, q = n - j /\ j <= n /\ iv = .int .i64 j /\ Below w.heap.size w wr /\ Hid ((zs.take j).any (metB k f) = false))
 case atStart => exact ⟨0, rfl, Nat.zero_le _, rfl, Below.refl _ _, (rfl : (zs.take 0).any (metB k f) = false)⟩
 case round =>
  obtain ⟨j, rfl, hj, rfl, hb, hP⟩ := hrel
  by_cases hlt : j < n
  ·have q0 : (0 : Int) <= (j : Int) := by omega
   have q1 : (j : Int) < (n : Int) := by omega
   obtain ⟨z, hz⟩ : ∃ z, zs[j]? = some z := ⟨zs[j]'(by have := H.out.2.2.1; omega), List.getElem?_eq_getElem _⟩
   obtain ⟨a, rfl, d0, d1⟩ := step_at (H.out.1.below hb) hz
   have hAs := H.out.2.1 z wr (List.mem_of_getElem? hz) hb
   obtain ⟨z1, z2⟩ := z
   simp only at d0 d1
   have hst := take_snocD hz
   have HZ : Hid _ := And.intro hst (And.intro hb (And.intro hAs (List.mem_of_getElem? hz)))
   clear hz hb hAs hst
   cases hp : metB k f (z1, z2) with
   | true =>
     have HP : Hid (metB k f (z1, z2) = true) := hp
     rw [hp] at HZ
     clear hp
     go_wp2_with (go_at_fn 82; refine Calls.mono HZ.out.2.2.1 ?_; rintro r w2 ⟨rfl, hb2⟩; have H2 : Hid _ := And.intro hb2 trivial; clear hb2)
     go_ret
     exact ⟨HZ.out.2.1.trans (H2.out.1.mono HZ.out.2.1.size), .inl ⟨j, rfl, by rw [H.out.2.2.2]; exact List.any_eq_true.2 ⟨_, HZ.out.2.2.2, HP.out⟩⟩⟩
   | false =>
     have HP : Hid (metB k f (z1, z2) = false) := hp
     rw [hp] at HZ
     clear hp
     go_wp2_with (go_at_fn 82; refine Calls.mono HZ.out.2.2.1 ?_; rintro r w2 ⟨rfl, hb2⟩; have H2 : Hid _ := And.intro hb2 trivial; clear hb2)
     go_roundg (n - (j + 1))
     case measure => omega
     case rel =>
      refine ⟨j + 1, rfl, by omega, by go_num, HZ.out.2.1.trans (H2.out.1.mono HZ.out.2.1.size), (?_ : (zs.take (j + 1)).any (metB k f) = false)⟩
      rw [HZ.out.1, List.any_append, hP.out, List.any_cons, HP.out]; rfl
  ·obtain rfl : j = n := by omega
   have q1 : ¬ (j : Int) < (j : Int) := by omega
   have HZ : Hid _ := And.intro hb trivial
   clear hb
   go_wp2_with fail
   go_ret
   refine ⟨HZ.out.1, .inr ⟨rfl, ?_⟩⟩
   have h := hP.out
   rw [H.out.2.2.1, List.take_length] at h
   rw [H.out.2.2.2]; exact h
set_option maxRecDepth 100000 in
set_option maxHeartbeats 1000000 in
theorem con_any (v : Value) (zs : List BSteps.El) (b1 b2 g m : Nat) (k : Int) (f : Nat -> Int) (w : World) (hL : MetL w v zs b1 b2 g m k f) :
 Calls Tryz.prog 83 #[v, metF b1 b2] w fun r w' => Below w.heap.size w w' /\ r = .returned (.bool (zs.any (metB k f))) := by
 have hI := idx_any v zs b1 b2 g m k f w hL
 obtain ⟨ao, cap, rfl, _⟩ := hL.has
 obtain ⟨n, hN⟩ : ∃ n, n = zs.length := ⟨_, rfl⟩
 rw [<- hN] at hI ⊢
 obtain ⟨b, hb⟩ : ∃ b, b = zs.any (metB k f) := ⟨_, rfl⟩
 rw [<- hb] at hI ⊢
 have H : Hid _ := hI
 clear hI hN hL hb
 unfold metF at H ⊢
 go_enter Tryz.func83, Tryz.ntmps83
 go_wp2_with fail
 refine Calls.mono H.out ?_
 rintro r w2 ⟨hb2, (⟨i, rfl, rfl⟩ | ⟨rfl, rfl⟩)⟩
 ·have H2 : Hid _ := And.intro hb2 trivial
  have q0 : (0 : Int) <= (i : Int) := by omega
  clear hb2
  go_wp2_with fail
  go_ret
  exact ⟨H2.out.1, rfl⟩
 ·have H2 : Hid _ := And.intro hb2 trivial
  clear hb2
  go_wp2_with fail
  go_ret
  exact ⟨H2.out.1, rfl⟩
end Di
namespace Di
open Go.RowKit Go.Maps
attribute [local go_sem ↓] Go.wp_at_zero Go.wp_at_succ
theorem two_cellsD {w : World} {b : Nat} {x y : Value} {t : TypeId} (h : w.heap[b]? = some (.cells #[x, y] t (0, 0))) : w.cell? ⟨b, 0, none⟩ = some x /\ w.cell? ⟨b, 1, none⟩ = some y := ⟨cell0_of h rfl, cell0_of h rfl⟩
theorem find_of {P : BSteps.El -> Bool} {zs : List BSteps.El} {j : Nat} {z : BSteps.El} (hst : zs.take (j + 1) = zs.take j ++ [z]) (hn : ∀ y ∈ zs.take j, P y = false) (hz : P z = true) : zs.find? P = some z := by
 have h : (zs.take j).find? P = none := List.find?_eq_none.2 fun y hy => by rw [hn y hy]; simp
 rw [<- List.take_append_drop (j + 1) zs, hst, List.find?_append, List.find?_append, h]
 simp [hz]
theorem res2 {w : World} {b : Nat} {x0 x1 y0 y1 : Value} {ty : TypeId} (h : w.heap[b]? = some (.cells #[x0, x1] ty (0, 0))) : ((w.setCell ⟨b, 0, none⟩ y0).setCell ⟨b, 1, none⟩ y1).cell? ⟨b, 0, none⟩ = some y0 /\ ((w.setCell ⟨b, 0, none⟩ y0).setCell ⟨b, 1, none⟩ y1).cell? ⟨b, 1, none⟩ = some y1 := by
 have h1 := heap_setCell_same w b 0 _ _ y0 h
 have h2 := heap_setCell_same (w.setCell ⟨b, 0, none⟩ y0) b 1 _ _ y1 h1
 exact ⟨cell0_of h2 rfl, cell0_of h2 rfl⟩
set_option linter.unusedSimpArgs false in
set_option maxRecDepth 100000 in
set_option maxHeartbeats 8000000 in
theorem telling_any {t b tm gs T m : Nat} {rb : Nat -> Nat} {out : Nat -> List Ro.St} {rk : Nat -> Nat -> Int} (hR : Rw m out) (hD : ∀ i, i < m -> ∀ z ∈ out i, 0 <= z.2 /\ z.2 < (m : Int)) (p q : Nat) (hp : p < m) (hq : q < m) (w : World) (hS : St4 w t b tm gs T m rb out rk) :
 Calls Tryz.prog 59 #[.pointer (some ⟨t, 0, none⟩), .agg #[.int .i64 (p : Int), .int .i64 (q : Int)]] w fun r w' => Below w.heap.size w w' /\ ((∃ z, telling out rk p q = some z /\ r = .returned (.tuple #[.agg #[.int .i64 z.1, .int .i64 z.2], .bool true])) \/ (telling out rk p q = none /\ r = .returned (.tuple #[.agg #[.int .i64 0, .int .i64 0], .bool false]))) := by
 obtain ⟨w1, hw1⟩ : ∃ w1, w1 = (w.alloc (.cells #[.int .i64 (p : Int), .int .i64 (q : Int)] 72)).alloc (.cells #[.int .i64 0, .int .i64 0] 111) := ⟨_, rfl⟩
 have hb1 : Below w.heap.size w w1 := by rw [hw1]; exact ((Below.refl _ _).alloc (Nat.le_refl _) _).alloc (by simp) _
 have hp1 : w1.heap[w.heap.size]? = some (.cells #[.int .i64 (p : Int), .int .i64 (q : Int)] 72 (0, 0)) := by rw [hw1]; exact (Below.heap_alloc _ _ _ (by simp)).trans (heap_alloc_new w _)
 have hr1 : w1.heap[w.heap.size + 1]? = some (.cells #[.int .i64 0, .int .i64 0] 111 (0, 0)) := by
  rw [hw1]
  have h := heap_alloc_new (w.alloc (.cells #[.int .i64 (p : Int), .int .i64 (q : Int)] 72)) (.cells #[.int .i64 0, .int .i64 0] 111)
  rw [World.size_alloc] at h
  exact h
 have hsz : w1.heap.size = w.heap.size + 2 := by rw [hw1]; simp
 have hS1 := hS.below hb1
 obtain ⟨c0, c1, c2, c3⟩ := four_cellsD hS1.box
 obtain ⟨x0, x1⟩ := two_cellsD hp1
 obtain ⟨ai, ci, hcap, e0, hHi⟩ := hS1.row p hp
 have e1 := hS1.rks.tab p hp
 have e2 := hS1.rks.cell hp hq
 have l1 := t_lt hS1.box
 have l2 := t_lt hp1
 have l3 := World.block_lt_of_cell? w1 _ e0
 have l4 := World.block_lt_of_cell? w1 _ e1
 have l5 := World.block_lt_of_cell? w1 _ e2
 simp only at l3 l4 l5
 obtain ⟨M, hM⟩ : ∃ M, M = (out p).length := ⟨_, rfl⟩
 have hMl : M <= 10000 := by rw [hM]; exact hR.len p hp
 rw [<- hM] at e0
 have q0 : (0 : Int) <= (p : Int) := by omega
 have q1 : (p : Int) < (m : Int) := by omega
 have q2 : (0 : Int) <= (q : Int) := by omega
 have q3 : (q : Int) < (m : Int) := by omega
 have H : Hid _ := And.intro hw1 (And.intro hb1 (And.intro hp1 (And.intro hr1 (And.intro hS1 (And.intro hHi (And.intro hcap (And.intro hM hsz)))))))
 clear hsz hw1 hb1 hp1 hr1 hS hS1 hHi hcap hM
 go_enter Tryz.func59, Tryz.ntmps59
 go_upto_region 1 with fail
 rw [<- H.out.1]
 go_region
 obtain ⟨w2, hw2⟩ : ∃ w2, w2 = (w1.alloc (.cells #[.int .i64 (rk p q)] 3)).drew := ⟨_, rfl⟩
 have hb2 : Below w1.heap.size w1 w2 := by rw [hw2]; exact ((Below.refl _ _).alloc (Nat.le_refl _) _).drew
 have hk2 : w2.heap[w1.heap.size]? = some (.cells #[.int .i64 (rk p q)] 3 (0, 0)) := by rw [hw2]; exact heap_alloc_new w1 _
 have hsz2 : w2.heap.size = w1.heap.size + 1 := by rw [hw2]; show (w1.alloc _).heap.size = _; simp
 rw [<- hw2]
 obtain ⟨b6, hb6⟩ : ∃ b6, b6 = w1.heap.size := ⟨_, rfl⟩
 rw [<- hb6] at hk2 hsz2 ⊢
 have hS2 := H.out.2.2.2.2.1.below hb2
 have hp2 := (hb2.block _ l2).trans H.out.2.2.1
 have hr2 := (hb2.block _ (t_lt H.out.2.2.2.1)).trans H.out.2.2.2.1
 have e0' := cell_up e0 hb2
 clear c0 c1 c2 c3 x0 x1 e0 e1 e2 l1 l2 l3 l4 l5
 obtain ⟨c0, c1, c2, c3⟩ := four_cellsD hS2.box
 obtain ⟨x0, x1⟩ := two_cellsD hp2
 have H2 : Hid _ := And.intro hw2 (And.intro hb2 (And.intro hk2 (And.intro hsz2 (And.intro hb6 (And.intro hS2 (And.intro hp2 hr2))))))
 clear hw2 hb2 hk2 hsz2 hb6 hS2 hp2 hr2
 go_upto_region 2 with fail
 go_quiet (fail)
 rename Nat => n9
 obtain ⟨w3, hw3⟩ : ∃ w3, w3 = w2.drewN n9 := ⟨_, rfl⟩
 have hb3 : Below w2.heap.size w2 w3 := by rw [hw3]; exact below_drewN (Below.refl _ _) _
 rw [<- hw3]
 have H3 : Hid _ := And.intro hb3 hw3
 clear c0 c1 c2 c3 x0 x1 e0' hb3 hw3
 go_wp2_with fail
 go_loopg [32] M (fun v iv wr => ∃ j : Nat, v = M - j /\ j <= M /\ iv = .int .i64 j /\ Below w3.heap.size w3 wr /\ Hid (∀ z ∈ (out p).take j, tel out rk p q z = false))
 case atStart => exact ⟨0, by omega, Nat.zero_le _, rfl, Below.refl _ _, (fun z hz => by simp at hz : ∀ z ∈ (out p).take 0, tel out rk p q z = false)⟩
 case round =>
  obtain ⟨j, rfl, hj, rfl, hb, hP⟩ := hrel
  obtain ⟨wq, rfl⟩ : ∃ wq, wq = wr := ⟨_, rfl⟩
  have hbq : Below w2.heap.size w2 wq := H3.out.1.trans (hb.mono H3.out.1.size)
  by_cases hlt : j < M
  ·have q4 : (0 : Int) <= (j : Int) := by omega
   have q5 : (j : Int) < (M : Int) := by omega
   obtain ⟨z, hz⟩ : ∃ z, (out p)[j]? = some z := ⟨(out p)[j]'(by have := H.out.2.2.2.2.2.2.2.1; omega), List.getElem?_eq_getElem _⟩
   have hzm := List.mem_of_getElem? hz
   have hzd := hD p hp z hzm
   have hzl := hR.lab p hp z hzm
   have hH2 := (H.out.2.2.2.2.2.1.below H2.out.2.1).below hbq
   rw [<- H.out.2.2.2.2.2.2.2.1] at hH2
   obtain ⟨a, rfl, d0, d1⟩ := step_at hH2 hz
   have hst := take_snocD hz
   obtain ⟨l, to'⟩ := z
   obtain ⟨s, rfl⟩ : ∃ s : Nat, to' = (s : Int) := ⟨to'.toNat, by simp only at hzd; omega⟩
   simp only at d0 d1 hzd hzl
   have hs : s < m := by omega
   obtain ⟨wb, hwb⟩ : ∃ wb, wb = wq.alloc (.cells #[.int .i64 l, .int .i64 (s : Int)] 111) := ⟨_, rfl⟩
   have hbb : Below wq.heap.size wq wb := by rw [hwb]; exact (Below.refl _ _).alloc (Nat.le_refl _) _
   have hgb : wb.heap[wq.heap.size]? = some (.cells #[.int .i64 l, .int .i64 (s : Int)] 111 (0, 0)) := by rw [hwb]; exact heap_alloc_new wq _
   have hbqb : Below w2.heap.size w2 wb := hbq.trans (hbb.mono hbq.size)
   have HB : Hid _ := And.intro hwb (And.intro hbqb (And.intro hgb (And.intro hst (And.intro hzm (And.intro hb (And.intro hbb hzl))))))
   have hSb := H2.out.2.2.2.2.2.1.below hbqb
   obtain ⟨y0, y1⟩ := two_cellsD hgb
   clear hwb hbb hgb hbqb hb hz hst hzm hbq hH2
   go_upto_region 5 with fail
   rw [<- HB.out.1]
   obtain ⟨c0, c1, c2, c3⟩ := four_cellsD hSb.box
   have e1 := hSb.rks.tab s hs
   have l1 := t_lt hSb.box
   have l2 := t_lt HB.out.2.2.1
   have l4 := World.block_lt_of_cell? wb _ e1
   simp only at l4
   have r0 : (0 : Int) <= (s : Int) := by omega
   have r1 : (s : Int) < (m : Int) := by omega
   have HS : Hid _ := hSb
   clear hSb d0 d1
   go_region
   obtain ⟨wc, hwc⟩ : ∃ wc, wc = (wb.alloc (.cells #[.slice (some ⟨rb s, 0, none⟩) m m] 39)).drew := ⟨_, rfl⟩
   have hbc : Below wb.heap.size wb wc := by rw [hwc]; exact ((Below.refl _ _).alloc (Nat.le_refl _) _).drew
   have hgc : wc.heap[wb.heap.size]? = some (.cells #[.slice (some ⟨rb s, 0, none⟩) m m] 39 (0, 0)) := by rw [hwc]; exact heap_alloc_new wb _
   rw [<- hwc]
   obtain ⟨b9, hb9⟩ : ∃ b9, b9 = wb.heap.size := ⟨_, rfl⟩
   rw [<- hb9] at hgc ⊢
   have hb2c : Below w2.heap.size w2 wc := HB.out.2.1.trans (hbc.mono HB.out.2.1.size)
   have hSc := HS.out.below hbc
   have hpc := (hb2c.block _ (t_lt H2.out.2.2.2.2.2.2.1)).trans H2.out.2.2.2.2.2.2.1
   have hgb := (hbc.block _ (t_lt HB.out.2.2.1)).trans HB.out.2.2.1
   have hkc := (hb2c.block _ (t_lt H2.out.2.2.1)).trans H2.out.2.2.1
   have hrc := (hb2c.block _ (t_lt H2.out.2.2.2.2.2.2.2)).trans H2.out.2.2.2.2.2.2.2
   have hBy := by_any hR q l wc hq HB.out.2.2.2.2.2.2.2 hSc
   have hMet : MetS wc b9 b6 (rb s) m (rk p q) (rk s) := ⟨cell0_of hgc rfl, cell0_of hkc rfl, fun x hx => hSc.rks.cell hs hx⟩
   obtain ⟨aq, cq, hcq, eq, hHq⟩ := hSc.row q hq
   clear y0 y1 c0 c1 c2 c3 e1 l1 l2 l4
   obtain ⟨y0, y1⟩ := two_cellsD hgb
   obtain ⟨x0, x1⟩ := two_cellsD hpc
   have hCon := fun (v : Value) (W : World) (hv : BSteps.Has W v (byl out q l)) (hb : Below wc.heap.size wc W) => con_any v (byl out q l) b9 b6 (rb s) m (rk p q) (rk s) W ⟨hv, hMet.below hb, fun z hz => hD q hq z (List.mem_filter.1 hz).1, Nat.le_trans (List.length_filter_le _ _) (by have := hR.len q hq; omega)⟩
   have hStand : ∀ W, Below wc.heap.size wc W -> RowSt wc gs q (out q) W := fun W hb => ⟨aq, cq, eq, hHq.below hb⟩
   have htel : tel out rk p q (l, (s : Int)) = !((byl out q l).any (metB (rk p q) (rk s))) := rfl
   have HC : Hid _ := And.intro hBy (And.intro hCon (And.intro hStand (And.intro hb2c (And.intro hgb (And.intro hrc (And.intro htel hbc))))))
   clear hwc hbc hgc hb9 hb2c hSc hpc hgb hkc hrc hBy hMet hCon hStand hcq eq hHq htel
   unfold metF at HC
   obtain ⟨B, hB⟩ : ∃ B, B = (byl out q l).any (metB (rk p q) (rk s)) := ⟨_, rfl⟩
   rw [<- hB] at HC
   clear hB
   cases B with
   | false =>
     go_upto_region 8 with (first
      | (go_at_call 62; refine Calls.mono HC.out.1 ?_; rintro r wd ⟨av, cv, rfl, hAt, hbd⟩; have HD : Hid _ := And.intro (HC.out.2.1 _ wd (hAt wd (HC.out.2.2.1 wd hbd)) hbd) hbd; clear hAt hbd)
      | (go_at_call 83; refine Calls.mono HD.out.1 ?_; rintro r we ⟨hbe, rfl⟩; have HE : Hid _ := hbe; clear hbe))
     have hbe := HD.out.2.trans (HE.out.mono HD.out.2.size)
     have hge := (hbe.block _ (t_lt HC.out.2.2.2.2.1)).trans HC.out.2.2.2.2.1
     have hre := (hbe.block _ (t_lt HC.out.2.2.2.2.2.1)).trans HC.out.2.2.2.2.2.1
     clear x0 x1 y0 y1
     obtain ⟨y0, y1⟩ := two_cellsD hge
     obtain ⟨x0, x1⟩ := two_cellsD hre
     have f0 := blk_free hre 0
     have f1 := blk_free hre 1
     have HF : Hid _ := And.intro hbe (And.intro hge hre)
     clear hbe hge hre
     go_wp2_with fail
     obtain ⟨k0, k1⟩ := res2 (y0 := .int .i64 l) (y1 := .int .i64 (s : Int)) HF.out.2.2
     refine bodyPost_ret (v := .tuple #[.agg #[.int .i64 l, .int .i64 (s : Int)], .bool true]) (by simp [results, Tryz.results59, go_sem, k0, k1]) rfl ⟨?_, .inl ⟨(l, (s : Int)), ?_, rfl⟩⟩
     ·have h1 := H.out.2.1
      have h2 := h1.trans (H2.out.2.1.mono h1.size)
      have h3 := h2.trans (HC.out.2.2.2.1.mono h2.size)
      have h4 := h3.trans (HF.out.1.mono h3.size)
      exact (h4.setCell (p := ⟨w.heap.size + 1, 0, none⟩) (by simp) _).setCell (p := ⟨w.heap.size + 1, 1, none⟩) (by simp) _
     ·exact find_of HB.out.2.2.2.1 hP.out (by rw [HC.out.2.2.2.2.2.2.1]; rfl)
   | true =>
     go_upto_region 8 with (first
      | (go_at_call 62; refine Calls.mono HC.out.1 ?_; rintro r wd ⟨av, cv, rfl, hAt, hbd⟩; have HD : Hid _ := And.intro (HC.out.2.1 _ wd (hAt wd (HC.out.2.2.1 wd hbd)) hbd) hbd; clear hAt hbd)
      | (go_at_call 83; refine Calls.mono HD.out.1 ?_; rintro r we ⟨hbe, rfl⟩; have HE : Hid _ := hbe; clear hbe))
     clear x0 x1 y0 y1
     go_wp2_with fail
     go_roundg (M - (j + 1))
     case measure => omega
     case rel =>
      have hbe := HD.out.2.trans (HE.out.mono HD.out.2.size)
      refine ⟨j + 1, rfl, by omega, by go_num, ?_, (?_ : ∀ z ∈ (out p).take (j + 1), tel out rk p q z = false)⟩
      ·have h1 := HB.out.2.2.2.2.2.1
       have h2 := HB.out.2.2.2.2.2.2.1
       have h3 := h1.trans (h2.mono h1.size)
       have h4 := h3.trans (HC.out.2.2.2.2.2.2.2.mono h3.size)
       exact h4.trans (hbe.mono h4.size)
      ·intro z hz
       rw [HB.out.2.2.2.1] at hz
       rcases List.mem_append.1 hz with h1 | h1
       ·exact hP.out z h1
       ·rw [List.mem_singleton.1 h1, HC.out.2.2.2.2.2.2.1]; rfl
  ·obtain rfl : j = M := by omega
   have q4 : ¬ (j : Int) < (j : Int) := by omega
   have hre := (hbq.block _ (t_lt H2.out.2.2.2.2.2.2.2)).trans H2.out.2.2.2.2.2.2.2
   obtain ⟨x0, x1⟩ := two_cellsD hre
   have f0 := blk_free hre 0
   have f1 := blk_free hre 1
   have HF : Hid _ := And.intro hbq hre
   clear hbq hre hb
   go_wp2_with fail
   obtain ⟨k0, k1⟩ := res2 (y0 := .int .i64 0) (y1 := .int .i64 0) HF.out.2
   refine bodyPost_ret (v := .tuple #[.agg #[.int .i64 0, .int .i64 0], .bool false]) (by simp [results, Tryz.results59, go_sem, k0, k1]) rfl ⟨?_, .inr ⟨?_, rfl⟩⟩
   ·have h1 := H.out.2.1
    have h2 := h1.trans (H2.out.2.1.mono h1.size)
    have h4 := h2.trans (HF.out.1.mono h2.size)
    exact (h4.setCell (p := ⟨w.heap.size + 1, 0, none⟩) (by simp) _).setCell (p := ⟨w.heap.size + 1, 1, none⟩) (by simp) _
   ·refine List.find?_eq_none.2 fun z hz => ?_
    rw [hP.out z (by rw [H.out.2.2.2.2.2.2.2.1, List.take_length]; exact hz)]
    simp
end Di
section
open Go.RowKit Go.Extern.Stop Go.Stop Go.Extern
theorem Tryz.valueOfPP (t : Addr) (w : World) : (ReflectliteValue.unpack (.iface 100 (.pointer (some t)))).run Tryz.prog w
 = .ok (.agg #[.pointer (some ⟨10, 100, none⟩), .pointer (some ⟨w.heap.size, 0, none⟩), .int .u64 150]) (w.alloc (.cells #[.pointer (some t)] 100)) := by kernel_rfl
theorem Tryz.typePP (a : Addr) (w : World) : (ReflectliteValue.methodAny (ReflectliteValue.valueError "reflectlite.Value.Type" 0) (fun t _ _ _ => ReflectliteType.toType t) #[.agg #[.pointer (some ⟨10, 100, none⟩), .pointer (some a), .int .u64 150]]).run Tryz.prog w
 = .ok (.iface 113 (.agg #[.pointer (some ⟨10, 100, none⟩)])) w := by kernel_rfl
theorem Tryz.methodKind (h : Value) (w : World) : (Go.method 401 113 (.agg #[h]) "Kind").run Tryz.prog w = .ok (181, h) w := by kernel_rfl
theorem Tryz.kindPP (w : World) : ((ReflectliteType.abiMethod fun t => (fun a : Nat => Value.int IntKind.u8 (a : Int)) <$> Rtype.kind t) #[.pointer (some ⟨10, 100, none⟩)]).run Tryz.prog w = .ok (.int .u8 22) w := by kernel_rfl
theorem Tryz.kindP (w : World) : ((ReflectliteType.abiMethod fun t => (fun a : Nat => Value.int IntKind.u8 (a : Int)) <$> Rtype.kind t) #[.pointer (some ⟨10, 96, none⟩)]).run Tryz.prog w = .ok (.int .u8 22) w := by kernel_rfl
theorem Tryz.partsPP (a : Addr) (w : World) : (ReflectliteValue.parts (.agg #[.pointer (some ⟨10, 100, none⟩), .pointer (some a), .int .u64 150])).run Tryz.prog w = .ok (some (100, a, 150)) w := by kernel_rfl
theorem entry_one (z : Sem Value) (f : TypeId -> Addr -> Nat -> Nat -> Sem Value) (v : Value) (P : Program) (W : World) (t : TypeId) (a : Addr) (fl : Nat) (h : (ReflectliteValue.parts v).run P W = .ok (some (t, a, fl)) W) : (ReflectliteValue.method z f #[v]).run P W = (f t a fl (fl % 32)).run P W := by
 show ((ReflectliteValue.parts v >>= _ : Sem Value)).run P W = _
 rw [Sem.run_bind, h]
 rfl
theorem Tryz.isNilPP (a p : Addr) (W : World) (ha : W.cell? a = some (.pointer (some p))) :
 (ReflectliteValue.method (ReflectliteValue.valueError "reflectlite.Value.IsNil" 0) ReflectliteValue.isNil #[.agg #[.pointer (some ⟨10, 100, none⟩), .pointer (some a), .int .u64 150]]).run Tryz.prog W = .ok (.bool false) W := by
 rw [entry_one _ _ _ _ _ _ _ _ (Tryz.partsPP a W)]
 simp [ReflectliteValue.isNil, loadVar, isAgg, underlying, Tryz.underlying100, ha, Result.andThen]
theorem Tryz.methodElem (h : Value) (w : World) : (Go.method 401 113 (.agg #[h]) "Elem").run Tryz.prog w = .ok (190, .agg #[h]) w := by kernel_rfl
theorem Tryz.methodImplements (h : Value) (w : World) : (Go.method 401 113 (.agg #[h]) "Implements").run Tryz.prog w = .ok (191, .agg #[h]) w := by kernel_rfl
theorem Tryz.methodAssignableTo (h : Value) (w : World) : (Go.method 401 113 (.agg #[h]) "AssignableTo").run Tryz.prog w = .ok (188, .agg #[h]) w := by kernel_rfl
theorem Tryz.elemPP (w : World) : (ReflectliteType.method ReflectliteType.elem #[.agg #[.pointer (some ⟨10, 100, none⟩)]]).run Tryz.prog w = .ok (.iface 113 (.agg #[.pointer (some ⟨10, 96, none⟩)])) w := by kernel_rfl
theorem Tryz.implementsP (w : World) : (ReflectliteType.relation "Implements" ReflectliteType.implements_ #[.agg #[.pointer (some ⟨10, 96, none⟩)], .iface 113 (.agg #[.pointer (some ⟨10, 32, none⟩)])]).run Tryz.prog w = .ok (.bool true) w := by kernel_rfl
end
end Go.Proofs.YtgehimdkdeldaabGreatDoor
