/- Texts of this claim, joined: RfSplit0, RfPart, RfSplit, RfSplit2, Shelf, SoInts, RfMembers0, RfMembers, SyOne0, SyNum, BSame, SyEq, SyCls, RfClasses, RfSO. -/
import Derived.Test.YthcpliinddjkhaaGreatDoorPart3
import Derived.Shelf.Small.Bits
import Derived.Shelf.Small.Wraps
import Derived.Shelf.Strconv.Itoa0
import Derived.Shelf.Sort.Plain
import Derived.Ground.Names2Prog
import Derived.Shelf.Slices.Clone
import Derived.Shelf.Slices.SearchI
import Derived.Ground.SlgnProg
import Derived.Shelf.SlicesE.Clone
import Derived.Test.YthcpliinddjkhaaGreatDoorProg
import Derived.Test.YthcpliinddjkhaaGreatDoorPart0
import Derived.Sort.OwnSortedInts
import Derived.Lib.SliceRun
import Derived.Test.YthcpliinddjkhaaGreatDoorPart1
import Derived.Maps.OwnSet
import Derived.WalkSmall
import Derived.Deep.QuietTactic
import Derived.BigQuiet
import Derived.Deep.LoopGhost
/- refine: what Split makes of a partition. -/
namespace Go.Proofs.YthcpliinddjkhaaGreatDoor
open Go.RowKit Go.Maps
def Pst.clear (s : Pst) (b : Nat) : Pst := { s with R := upd s.R b (s.B b) }
theorem clear_lay {c : Nat -> Int} {s : Pst} (hL : Lay c s) (hn : s.n <= 1000) {b : Nat} (hb : b < 1000) : Lay (upd c (3002 + b * 3 + 1) (s.B b)) (s.clear b) := by
 refine ⟨?_, ?_, fun k hk => ?_, fun k hk => ?_, fun k hk => ?_, fun k hk => ?_, fun k hk => ?_, fun k hk => ?_⟩
 ·rw [upd_ne _ _ (by omega)]; exact hL.n
 ·rw [upd_ne _ _ (by omega)]; exact hL.nb
 ·have hk' : k < s.n := hk
  rw [upd_ne _ _ (by omega)]; exact hL.e k hk'
 ·have hk' : k < s.n := hk
  rw [upd_ne _ _ (by omega)]; exact hL.p k hk'
 ·have hk' : k < s.n := hk
  rw [upd_ne _ _ (by omega)]; exact hL.o k hk'
 ·have hk' : k < s.nb := hk
  rw [upd_ne _ _ (by omega)]; exact hL.b k hk'
 ·have hk' : k < s.nb := hk
  exact upd_at3 _ (hL.r k hk')
 ·have hk' : k < s.nb := hk
  rw [upd_ne _ _ (by omega)]; exact hL.d k hk'
theorem clear_ok {s : Pst} (hO : s.Ok) {b : Nat} (hb : b < s.nb) : (s.clear b).Ok /\ ∀ y, y < s.n -> (s.clear b).isM y = (s.isM y && decide (s.O y ≠ b)) := by
 refine ⟨⟨hO.n1, hO.pe, hO.ep, hO.o, fun b' hb' => ?_, hO.ow, hO.su⟩, fun y hy => ?_⟩
 ·show s.B b' <= upd s.R b (s.B b) b' /\ upd s.R b (s.B b) b' <= s.D b' /\ s.B b' < s.D b' /\ s.D b' <= s.n
  have h := hO.iv b' hb'
  by_cases e : b' = b
  ·subst e; rw [upd_same]; omega
  ·rw [upd_ne _ _ e]; exact h
 ·show decide (s.P y < upd s.R b (s.B b) (s.O y)) = (decide (s.P y < s.R (s.O y)) && decide (s.O y ≠ b))
  have h := hO.o y hy
  by_cases e : s.O y = b
  ·rw [e] at h ⊢
   rw [upd_same]
   simp
   omega
  ·rw [upd_ne _ _ e]; simp [e]
def Pst.cut (s : Pst) (b sB sD fB fD j : Nat) : Pst := { s with nb := s.nb + 1, B := upd (upd s.B b sB) s.nb fB, R := upd (upd s.R b sB) s.nb fB, D := upd (upd s.D b sD) s.nb fD, O := fun e => if fB <= s.P e /\ s.P e < fB + j then s.nb else s.O e }
def cutC (c : Nat -> Int) (b nb sB sD fB fD : Nat) : Nat -> Int := upd (upd (upd (upd (upd (upd (upd c 1 ((nb + 1 : Nat) : Int)) (3002 + b * 3) sB) (3002 + b * 3 + 1) sB) (3002 + b * 3 + 2) sD) (3002 + nb * 3) fB) (3002 + nb * 3 + 1) fB) (3002 + nb * 3 + 2) fD
theorem upd_here {f : Nat -> Int} {h : Nat -> Nat} {a i k : Nat} (x : Nat) (hk : k ≠ i -> f (a + k * 3) = h k) : upd f (a + i * 3) x (a + k * 3) = (upd h i x k : Nat) := by
 unfold upd
 by_cases e : k = i
 ·subst e; simp
 ·rw [if_neg (by omega), if_neg e]; exact hk e
theorem upd_here3 {f : Nat -> Int} {h : Nat -> Nat} {a d i k : Nat} (x : Nat) (hk : k ≠ i -> f (a + k * 3 + d) = h k) : upd f (a + i * 3 + d) x (a + k * 3 + d) = (upd h i x k : Nat) := by
 unfold upd
 by_cases e : k = i
 ·subst e; simp
 ·rw [if_neg (by omega), if_neg e]; exact hk e
theorem cut_lay {c : Nat -> Int} {s : Pst} (hL : Lay c s) (hn : s.n <= 1000) {b sB sD fB fD : Nat} : Lay (cutC c b s.nb sB sD fB fD) (s.cut b sB sD fB fD 0) := by
 refine ⟨?_, ?_, fun k hk => ?_, fun k hk => ?_, fun k hk => ?_, fun k hk => ?_, fun k hk => ?_, fun k hk => ?_⟩
 ·unfold cutC
  rw [upd_ne _ _ (by omega), upd_ne _ _ (by omega), upd_ne _ _ (by omega), upd_ne _ _ (by omega), upd_ne _ _ (by omega), upd_ne _ _ (by omega), upd_ne _ _ (by omega)]
  exact hL.n
 ·unfold cutC
  rw [upd_ne _ _ (by omega), upd_ne _ _ (by omega), upd_ne _ _ (by omega), upd_ne _ _ (by omega), upd_ne _ _ (by omega), upd_ne _ _ (by omega), upd_same]
  rfl
 ·have hk' : k < s.n := hk
  unfold cutC
  rw [upd_ne _ _ (by omega), upd_ne _ _ (by omega), upd_ne _ _ (by omega), upd_ne _ _ (by omega), upd_ne _ _ (by omega), upd_ne _ _ (by omega), upd_ne _ _ (by omega)]
  exact hL.e k hk'
 ·have hk' : k < s.n := hk
  unfold cutC
  rw [upd_ne _ _ (by omega), upd_ne _ _ (by omega), upd_ne _ _ (by omega), upd_ne _ _ (by omega), upd_ne _ _ (by omega), upd_ne _ _ (by omega), upd_ne _ _ (by omega)]
  exact hL.p k hk'
 ·have hk' : k < s.n := hk
  unfold cutC
  rw [upd_ne _ _ (by omega), upd_ne _ _ (by omega), upd_ne _ _ (by omega), upd_ne _ _ (by omega), upd_ne _ _ (by omega), upd_ne _ _ (by omega), upd_ne _ _ (by omega)]
  show c (2002 + k) = ((if fB <= s.P k /\ s.P k < fB + 0 then s.nb else s.O k : Nat) : Int)
  rw [if_neg (by omega)]
  exact hL.o k hk'
 ·have hk' : k < s.nb + 1 := hk
  unfold cutC
  rw [upd_ne _ _ (by omega), upd_ne _ _ (by omega)]
  refine upd_here fB fun e1 => ?_
  rw [upd_ne _ _ (by omega), upd_ne _ _ (by omega)]
  refine upd_here sB fun e2 => ?_
  rw [upd_ne _ _ (by omega)]
  exact hL.b k (by omega)
 ·have hk' : k < s.nb + 1 := hk
  unfold cutC
  rw [upd_ne _ _ (by omega)]
  refine upd_here3 fB fun e1 => ?_
  rw [upd_ne _ _ (by omega), upd_ne _ _ (by omega)]
  refine upd_here3 sB fun e2 => ?_
  rw [upd_ne _ _ (by omega), upd_ne _ _ (by omega)]
  exact hL.r k (by omega)
 ·have hk' : k < s.nb + 1 := hk
  unfold cutC
  refine upd_here3 fD fun e1 => ?_
  rw [upd_ne _ _ (by omega), upd_ne _ _ (by omega)]
  refine upd_here3 sD fun e2 => ?_
  rw [upd_ne _ _ (by omega), upd_ne _ _ (by omega), upd_ne _ _ (by omega)]
  exact hL.d k (by omega)
theorem cut_next {c : Nat -> Int} {s : Pst} (hO : s.Ok) {b sB sD fB fD j : Nat} (hL : Lay c (s.cut b sB sD fB fD j)) (hj : fB + j < s.n) : Lay (upd c (2002 + s.E (fB + j)) s.nb) (s.cut b sB sD fB fD (j + 1)) := by
 obtain ⟨e1, e2⟩ := hO.ep (fB + j) hj
 have hn := hO.n1
 refine ⟨?_, ?_, fun k hk => ?_, fun k hk => ?_, fun k hk => ?_, fun k hk => ?_, fun k hk => ?_, fun k hk => ?_⟩
 ·rw [upd_ne _ _ (by omega)]; exact hL.n
 ·rw [upd_ne _ _ (by omega)]; exact hL.nb
 ·have hk' : k < s.n := hk
  rw [upd_ne _ _ (by omega)]; exact hL.e k hk'
 ·have hk' : k < s.n := hk
  rw [upd_ne _ _ (by omega)]; exact hL.p k hk'
 ·have hk' : k < s.n := hk
  show _ = ((if fB <= s.P k /\ s.P k < fB + (j + 1) then s.nb else s.O k : Nat) : Int)
  by_cases h : k = s.E (fB + j)
  ·rw [h, upd_same, e2, if_pos (by omega)]
  ·have h3 : s.P k ≠ fB + j := fun h4 => h (by rw [<- h4, (hO.pe k hk').2])
   rw [upd_ne _ _ (by omega), hL.o k hk']
   show ((if fB <= s.P k /\ s.P k < fB + j then s.nb else s.O k : Nat) : Int) = _
   by_cases h5 : fB <= s.P k /\ s.P k < fB + j
   ·rw [if_pos h5, if_pos (by omega)]
   ·rw [if_neg h5, if_neg (by omega)]
 ·rw [upd_ne _ _ (by omega)]; exact hL.b k hk
 ·rw [upd_ne _ _ (by omega)]; exact hL.r k hk
 ·rw [upd_ne _ _ (by omega)]; exact hL.d k hk
theorem cut_ok {s : Pst} (hO : s.Ok) {b sB sD fB fD : Nat} (hb : b < s.nb) (hm : s.B b < s.R b) (ho : s.R b < s.D b) (hx : (sB = s.B b /\ sD = s.R b /\ fB = s.R b /\ fD = s.D b) \/ (sB = s.R b /\ sD = s.D b /\ fB = s.B b /\ fD = s.R b)) : (s.cut b sB sD fB fD (fD - fB)).Ok /\ ∀ y, y < s.n -> (s.cut b sB sD fB fD (fD - fB)).isM y = (s.isM y && decide (s.O y ≠ b)) := by
 have hne : b ≠ s.nb := by omega
 have v := hO.iv b hb
 have hf : fB + (fD - fB) = fD := by omega
 refine ⟨⟨hO.n1, hO.pe, hO.ep, fun e he => ?_, fun b' hb' => ?_, fun b' hb' k h1 h2 => ?_, ?_⟩, fun y hy => ?_⟩
 ·show (if fB <= s.P e /\ s.P e < fB + (fD - fB) then s.nb else s.O e) < s.nb + 1 /\ upd (upd s.B b sB) s.nb fB (if fB <= s.P e /\ s.P e < fB + (fD - fB) then s.nb else s.O e) <= s.P e /\ s.P e < upd (upd s.D b sD) s.nb fD (if fB <= s.P e /\ s.P e < fB + (fD - fB) then s.nb else s.O e)
  rw [hf]
  obtain ⟨o1, o2, o3⟩ := hO.o e he
  by_cases h : fB <= s.P e /\ s.P e < fD
  ·rw [if_pos h, upd_same, upd_same]; omega
  ·have on : s.O e ≠ s.nb := by omega
   rw [if_neg h, upd_ne _ _ on, upd_ne _ _ on]
   by_cases e1 : s.O e = b
   ·rw [e1] at o1 o2 o3 ⊢
    rw [upd_same, upd_same]; omega
   ·rw [upd_ne _ _ e1, upd_ne _ _ e1]; omega
 ·show upd (upd s.B b sB) s.nb fB b' <= upd (upd s.R b sB) s.nb fB b' /\ upd (upd s.R b sB) s.nb fB b' <= upd (upd s.D b sD) s.nb fD b' /\ upd (upd s.B b sB) s.nb fB b' < upd (upd s.D b sD) s.nb fD b' /\ upd (upd s.D b sD) s.nb fD b' <= s.n
  have hb2 : b' < s.nb + 1 := hb'
  by_cases e1 : b' = s.nb
  ·subst e1; rw [upd_same, upd_same, upd_same]; omega
  ·rw [upd_ne _ _ e1, upd_ne _ _ e1, upd_ne _ _ e1]
   by_cases e2 : b' = b
   ·subst e2; rw [upd_same, upd_same, upd_same]; omega
   ·rw [upd_ne _ _ e2, upd_ne _ _ e2, upd_ne _ _ e2]; exact hO.iv b' (by omega)
 ·replace h1 : upd (upd s.B b sB) s.nb fB b' <= k := h1
  replace h2 : k < upd (upd s.D b sD) s.nb fD b' := h2
  have hb2 : b' < s.nb + 1 := hb'
  show (if fB <= s.P (s.E k) /\ s.P (s.E k) < fB + (fD - fB) then s.nb else s.O (s.E k)) = b'
  rw [hf]
  by_cases e1 : b' = s.nb
  ·subst e1
   rw [upd_same] at h1 h2
   rw [(hO.ep k (by omega)).2, if_pos ⟨h1, h2⟩]
  ·rw [upd_ne _ _ e1] at h1 h2
   by_cases e2 : b' = b
   ·subst e2
    rw [upd_same] at h1 h2
    rw [(hO.ep k (by omega)).2, if_neg (by omega)]
    exact hO.ow b' hb k (by omega) (by omega)
   ·rw [upd_ne _ _ e2] at h1 h2
    have v2 := hO.iv b' (by omega)
    have h3 := hO.ow b' (by omega) k h1 h2
    have h4 : ¬ (s.B b <= k /\ k < s.D b) := fun h => e2 (by rw [<- h3, hO.ow b hb k h.1 h.2])
    rw [(hO.ep k (by omega)).2, if_neg (by omega)]
    exact h3
 ·show tot (fun b' => upd (upd s.D b sD) s.nb fD b' - upd (upd s.B b sB) s.nb fB b') (s.nb + 1) = s.n
  simp only [tot, upd_same]
  rw [tot_congr (g := upd (fun b' => s.D b' - s.B b') b (sD - sB)) s.nb fun j hj => by
   have jn : j ≠ s.nb := by omega
   rw [upd_ne _ _ jn, upd_ne _ _ jn]
   by_cases e : j = b
   ·subst e; rw [upd_same, upd_same, upd_same]
   ·rw [upd_ne _ _ e, upd_ne _ _ e, upd_ne _ _ e]]
  have h1 := tot_upd (fun b' => s.D b' - s.B b') b (sD - sB) s.nb hb
  have h2 := hO.su
  omega
 ·show decide (s.P y < upd (upd s.R b sB) s.nb fB (if fB <= s.P y /\ s.P y < fB + (fD - fB) then s.nb else s.O y)) = (decide (s.P y < s.R (s.O y)) && decide (s.O y ≠ b))
  rw [hf]
  obtain ⟨o1, o2, o3⟩ := hO.o y hy
  by_cases h : fB <= s.P y /\ s.P y < fD
  ·have e1 : s.O y = b := by
    have h3 := hO.ow b hb (s.P y) (by omega) (by omega)
    rw [(hO.pe y hy).2] at h3
    exact h3
   rw [if_pos h, upd_same]
   simp [e1]
   omega
  ·rw [if_neg h, upd_ne _ _ (by omega)]
   by_cases e1 : s.O y = b
   ·rw [e1] at o2 o3 ⊢
    rw [upd_same]
    simp
    omega
   ·rw [upd_ne _ _ e1]; simp [e1]
end Go.Proofs.YthcpliinddjkhaaGreatDoor
/- refine: marks, others, part. -/
namespace Go.Proofs.YthcpliinddjkhaaGreatDoor
open Go.RowKit Go.Maps
attribute [local go_sem ↓] Go.wp_at_zero Go.wp_at_succ
theorem marks_any (x y z : Nat) (hx : x <= y) (hy : y <= 1000) (w : World) : Calls Tryz.prog 203 #[.agg #[.int .i64 x, .int .i64 y, .int .i64 z]] w fun r w' => r = .returned (.int .i64 ((y - x : Nat) : Int)) /\ Below w.heap.size w w' := by
 have p1 : IntKind.i64.wrap ((y : Int) - (x : Int)) = ((y - x : Nat) : Int) := by rw [IntKind.wrap_i64]; omega
 go_enter Tryz.func203, Tryz.ntmps203
 go_wp2_with fail
 go_ret
 exact ⟨by first | rfl | (congr 2; omega), (Below.refl _ _).alloc (Nat.le_refl _) _⟩
theorem others_any (x y z : Nat) (hx : y <= z) (hy : z <= 1000) (w : World) : Calls Tryz.prog 204 #[.agg #[.int .i64 x, .int .i64 y, .int .i64 z]] w fun r w' => r = .returned (.int .i64 ((z - y : Nat) : Int)) /\ Below w.heap.size w w' := by
 have p1 : IntKind.i64.wrap ((z : Int) - (y : Int)) = ((z - y : Nat) : Int) := by rw [IntKind.wrap_i64]; omega
 go_enter Tryz.func204, Tryz.ntmps204
 go_wp2_with fail
 go_ret
 exact ⟨by first | rfl | (congr 2; omega), (Below.refl _ _).alloc (Nat.le_refl _) _⟩
set_option maxHeartbeats 1000000 in
theorem part_any (g b e : Nat) (hb : b < e) (he : e <= 1000) (w : World) : Calls Tryz.prog 182 #[.pointer (some ⟨g, 0, none⟩), .int .i64 b, .int .i64 e] w fun r w' => r = .returned (.slice (some ⟨g, 2 + b, none⟩) (e - b) (e - b)) /\ w' = w := by
 have b0 : (0 : Int) <= (b : Int) := by omega
 have b1 : (b : Int) <= (e : Int) := by omega
 have b2 : (e : Int) <= 1000 := by omega
 have b3 : ¬ e - b = 0 := by omega
 have b4 : ¬ e = b := by omega
 have b5 : (0 : Int) <= (e : Int) := by omega
 go_enter Tryz.func182, Tryz.ntmps182
 go_wp2_with fail
 go_ret
 exact ⟨by first | rfl | simp, rfl⟩
end Go.Proofs.YthcpliinddjkhaaGreatDoor
/- refine: Split. -/
namespace Go.Proofs.YthcpliinddjkhaaGreatDoor
open Go.RowKit Go.Maps
attribute [local go_sem ↓] Go.wp_at_zero Go.wp_at_succ
theorem cellu {w w' : World} {a : Addr} {x : Value} (h : w.cell? a = some x) (hb : Below w.heap.size w w') : w'.cell? a = some x := (hb.cell (World.block_lt_of_cell? w _ h)).trans h
set_option maxRecDepth 100000 in
set_option maxHeartbeats 4000000 in
theorem split_none (g : Nat) (c : Nat -> Int) (s : Pst) (b : Nat) (w0 w : World) (hP : Pt w0 w g c) (hL : Lay c s) (hO : s.Ok) (hb : b < s.nb) (hm : s.R b = s.B b \/ s.D b = s.R b) :
 Calls Tryz.prog 189 #[.pointer (some ⟨g, 0, none⟩), .int .i64 b] w fun r w' => r = .returned (.tuple #[.int .i64 0, .bool false, .nilIface]) /\ Pt w0 w' g (upd c (3002 + b * 3 + 1) (s.B b)) /\ Kept (fun i => i = g) w w' := by
 obtain ⟨v1, v2, v3, v4⟩ := hO.iv b hb
 have hn := hO.n1
 have hf := hO.few
 have hS := blocks_any g c w0 w hP
 rw [hL.nb] at hS
 have hl := lacks_ok g b s.nb w (by omega) (by omega)
 have c0 := hP.cell (i := 3002 + b * 3) (by omega)
 rw [hL.b b hb] at c0
 have c1 := hP.cell (i := 3002 + b * 3 + 1) (by omega)
 rw [hL.r b hb] at c1
 have c2 := hP.cell (i := 3002 + b * 3 + 2) (by omega)
 rw [hL.d b hb] at c2
 have e0 : (0 : Int) <= (b : Int) := by omega
 have e1 : (b : Int) < 1000 := by omega
 have hM := fun W => marks_any (s.B b) (s.R b) (s.D b) v1 (by omega) W
 have hT := fun W => others_any (s.B b) (s.R b) (s.D b) v2 (by omega) W
 have l0 : b < 1000 := by omega
 generalize s.B b = B at *
 generalize s.R b = R at *
 generalize s.D b = D at *
 generalize s.nb = nb at hS hl
 have hgl := Arr.lt hP
 have hb1 : Below w.heap.size w (w.alloc (.cells #[.int .i64 B, .int .i64 R, .int .i64 D] 233)) := (Below.refl _ _).alloc (Nat.le_refl _) _
 have hn1 : (w.alloc (.cells #[.int .i64 B, .int .i64 R, .int .i64 D] 233)).heap[w.heap.size]? = some (.cells #[.int .i64 B, .int .i64 R, .int .i64 D] 233 (0, 0)) := heap_alloc_new _ _
 have H : Hid _ := And.intro hS (And.intro hl (And.intro hM (And.intro hT (And.intro hP (And.intro hb1 hn1)))))
 clear hS hl hP hL hO hn hf hM hT hb1 hn1
 by_cases h1 : R = B
 ·have m0 : ((R - B : Nat) : Int) = 0 := by omega
  have m1 : R - B = 0 := by omega
  have HB : Hid (R = B) := h1
  clear h1 hm v1 v2 v3 v4
  go_enter Tryz.func189, Tryz.ntmps189
  go_wp2_with (first
   | (go_at_call 180; refine Calls.mono H.out.1 ?_; rintro r w1 ⟨rfl, hw1⟩; obtain rfl := hw1.symm; clear hw1)
   | (go_at_call 179; refine Calls.mono H.out.2.1 ?_; rintro r w1 ⟨rfl, hw1⟩; obtain rfl := hw1.symm; clear hw1)
   | (go_at_call 203; refine Calls.mono (H.out.2.2.1 _) ?_; rintro r w2 ⟨rfl, hb2⟩))
  have hP2 := (H.out.2.2.2.2.1.below H.out.2.2.2.2.2.1).below hb2
  have y0 := cell0_of (k := 0) ((hb2.block _ (t_lt H.out.2.2.2.2.2.2)).trans H.out.2.2.2.2.2.2) rfl
  have y1 := hP2.cell (i := 3002 + b * 3 + 1) (by omega)
  have f1 := hP2.free (3002 + b * 3 + 1)
  have hgn : ¬ g = w.heap.size := by omega
  have hgn2 : ¬ w.heap.size = g := by omega
  have HZ : Hid _ := And.intro hP2 (Kept.of_below (F := fun i => i = g) (H.out.2.2.2.2.2.1.trans (hb2.mono H.out.2.2.2.2.2.1.size)))
  clear hP2 hb2
  go_region
  all_goals go_wp2_with fail
  all_goals
   refine bodyPost_ret (v := .tuple #[.int .i64 0, .bool false, .nilIface]) (by simp [results, Tryz.results189, go_sem]) rfl ?_
   exact ⟨rfl, (HZ.out.1.set _ _).below (Below.refl _ _).drew, (HZ.out.2.trans (Kept.setCell _ _ _ _)).trans (Kept.of_below (Below.refl _ _).drew)⟩
 ·have m0 : ¬ ((R - B : Nat) : Int) = 0 := by omega
  have m1 : ¬ R - B = 0 := by omega
  have o0 : ((D - R : Nat) : Int) = 0 := by omega
  have o1 : D - R = 0 := by omega
  have m2 : decide (((R - B : Nat) : Int) = 0) = false := decide_eq_false m0
  clear h1 hm v1 v2 v3 v4
  go_enter Tryz.func189, Tryz.ntmps189
  go_wp2_with (first
   | (go_at_call 180; refine Calls.mono H.out.1 ?_; rintro r w1 ⟨rfl, hw1⟩; obtain rfl := hw1.symm; clear hw1)
   | (go_at_call 179; refine Calls.mono H.out.2.1 ?_; rintro r w1 ⟨rfl, hw1⟩; obtain rfl := hw1.symm; clear hw1)
   | (go_at_call 203; refine Calls.mono (H.out.2.2.1 _) ?_; rintro r w1 ⟨rfl, hb1⟩; have y0 := cellu (cell0_of (k := 0) H.out.2.2.2.2.2.2 rfl) hb1; have y1 := cellu (cell0_of (k := 1) H.out.2.2.2.2.2.2 rfl) hb1; have y2 := cellu (cell0_of (k := 2) H.out.2.2.2.2.2.2 rfl) hb1)
   | (go_at_call 204; refine Calls.mono (H.out.2.2.2.1 _) ?_; rintro r w2 ⟨rfl, hb2'⟩; have hb2 := hb1.trans (hb2'.mono hb1.size)))
  clear y0 y1 y2 hb2' hb1
  have hP2 := (H.out.2.2.2.2.1.below H.out.2.2.2.2.2.1).below hb2
  have y0 := cell0_of (k := 0) ((hb2.block _ (t_lt H.out.2.2.2.2.2.2)).trans H.out.2.2.2.2.2.2) rfl
  have y1 := hP2.cell (i := 3002 + b * 3 + 1) (by omega)
  have f1 := hP2.free (3002 + b * 3 + 1)
  have hgn : ¬ g = w.heap.size := by omega
  have hgn2 : ¬ w.heap.size = g := by omega
  have HZ : Hid _ := And.intro hP2 (Kept.of_below (F := fun i => i = g) (H.out.2.2.2.2.2.1.trans (hb2.mono H.out.2.2.2.2.2.1.size)))
  clear hP2 hb2
  go_region
  all_goals go_wp2_with fail
  all_goals
   refine bodyPost_ret (v := .tuple #[.int .i64 0, .bool false, .nilIface]) (by simp [results, Tryz.results189, go_sem]) rfl ?_
   exact ⟨rfl, (HZ.out.1.set _ _).below (Below.refl _ _).drew, (HZ.out.2.trans (Kept.setCell _ _ _ _)).trans (Kept.of_below (Below.refl _ _).drew)⟩
end Go.Proofs.YthcpliinddjkhaaGreatDoor
/- refine: Split where there are marked and other elements. -/
namespace Go.Proofs.YthcpliinddjkhaaGreatDoor
open Go.RowKit Go.Maps
attribute [local go_sem ↓] Go.wp_at_zero Go.wp_at_succ
structure SpM (w0 w wx : World) (g : Nat) (c : Nat -> Int) (st fr sB sD fB fD : Nat) : Prop where
 pt : Pt w0 wx g c
 kp : Kept (fun i => i = g) w wx
 cs : wx.heap[st]? = some (.cells #[.int .i64 sB, .int .i64 sB, .int .i64 sD] 233 (0, 0))
 cf : wx.heap[fr]? = some (.cells #[.int .i64 fB, .int .i64 fB, .int .i64 fD] 233 (0, 0))
theorem SpM.below {w0 w wx wy : World} {g : Nat} {c : Nat -> Int} {st fr sB sD fB fD : Nat} (h : SpM w0 w wx g c st fr sB sD fB fD) (hb : Below wx.heap.size wx wy) : SpM w0 w wy g c st fr sB sD fB fD :=
 ⟨h.pt.below hb, h.kp.trans (Kept.of_below hb), (hb.block _ (t_lt h.cs)).trans h.cs, (hb.block _ (t_lt h.cf)).trans h.cf⟩
theorem blk_set3 {w : World} {b : Nat} {x0 x1 x2 : Value} {t : TypeId} (h : w.heap[b]? = some (.cells #[x0, x1, x2] t (0, 0))) (y0 y1 y2 : Value) : (((w.setCell ⟨b, 0, none⟩ y0).setCell ⟨b, 1, none⟩ y1).setCell ⟨b, 2, none⟩ y2).heap[b]? = some (.cells #[y0, y1, y2] t (0, 0)) := by
 have h0 := heap_setCell_same w b 0 _ _ y0 h
 have h1 := heap_setCell_same _ b 1 _ _ y1 h0
 exact heap_setCell_same _ b 2 _ _ y2 h1
theorem kept_set3 (w : World) (b : Nat) (y0 y1 y2 : Value) : Kept (fun i => i = b) w (((w.setCell ⟨b, 0, none⟩ y0).setCell ⟨b, 1, none⟩ y1).setCell ⟨b, 2, none⟩ y2) := ((Kept.setCell _ _ _ _).trans (Kept.setCell _ _ _ _)).trans (Kept.setCell _ _ _ _)
theorem SpM.swap {w0 w wx : World} {g : Nat} {c : Nat -> Int} {st sB sD fB fD : Nat} (h : SpM w0 w wx g c st (st + 1) sB sD fB fD) (hw : w.heap.size < st) (hg : g < w.heap.size) (h0 : w0.heap.size <= w.heap.size) : SpM w0 w ((((((wx.setCell ⟨st, 0, none⟩ (.int .i64 fB)).setCell ⟨st, 1, none⟩ (.int .i64 fB)).setCell ⟨st, 2, none⟩ (.int .i64 fD)).setCell ⟨st + 1, 0, none⟩ (.int .i64 sB)).setCell ⟨st + 1, 1, none⟩ (.int .i64 sB)).setCell ⟨st + 1, 2, none⟩ (.int .i64 sD)) g c st (st + 1) fB fD sB sD := by
 have k1 := kept_set3 wx st (.int .i64 fB) (.int .i64 fB) (.int .i64 fD)
 have b1 := blk_set3 h.cs (.int .i64 fB) (.int .i64 fB) (.int .i64 fD)
 have b2 := (k1.block _ (t_lt h.cf) (by omega)).trans h.cf
 generalize ((wx.setCell ⟨st, 0, none⟩ (.int .i64 fB)).setCell ⟨st, 1, none⟩ (.int .i64 fB)).setCell ⟨st, 2, none⟩ (.int .i64 fD) = w1 at k1 b1 b2 ⊢
 have k2 := kept_set3 w1 (st + 1) (.int .i64 sB) (.int .i64 sB) (.int .i64 sD)
 have b3 := blk_set3 b2 (.int .i64 sB) (.int .i64 sB) (.int .i64 sD)
 have b4 := (k2.block _ (t_lt b1) (by omega)).trans b1
 refine ⟨(h.pt.kept k1 fun b hb => ⟨by omega, by omega⟩).kept k2 fun b hb => ⟨by omega, by omega⟩, (h.kp.trans2 k1 fun i hi => Or.inr (by omega)).trans2 k2 fun i hi => Or.inr (by omega), b4, b3⟩
theorem SpM.set {w0 w wx : World} {g : Nat} {c : Nat -> Int} {st sB sD fB fD : Nat} (h : SpM w0 w wx g c st (st + 1) sB sD fB fD) (hg : g < st) (i : Nat) (x : Int) : SpM w0 w (wx.setCell ⟨g, i, none⟩ (.int .i64 x)) g (upd c i x) st (st + 1) sB sD fB fD :=
 have k := Kept.setCell wx g i (.int .i64 x)
 ⟨h.pt.set i x, h.kp.trans k, (k.block _ (t_lt h.cs) (by omega)).trans h.cs, (k.block _ (t_lt h.cf) (by omega)).trans h.cf⟩
theorem rgb3 {w wr : World} {P : Prop} (h : P /\ Hid (Below w.heap.size w wr)) : Below w.heap.size w wr := h.2.out
theorem rg_up3 {w2 wa wb : World} {a0 a1 a2 : Addr} {x0 x1 x2 : Value} (hb : Below wa.heap.size wa wb) (h : (wa.cell? a0 = some x0 /\ wa.cell? a1 = some x1 /\ wa.cell? a2 = some x2) /\ Hid (Below w2.heap.size w2 wa)) : (wb.cell? a0 = some x0 /\ wb.cell? a1 = some x1 /\ wb.cell? a2 = some x2) /\ Hid (Below w2.heap.size w2 wb) :=
 ⟨⟨cellu h.1.1 hb, cellu h.1.2.1 hb, cellu h.1.2.2 hb⟩, (h.2.out.trans (hb.mono h.2.out.size) : Below w2.heap.size w2 wb)⟩
set_option maxRecDepth 100000 in
set_option maxHeartbeats 8000000 in
theorem split_some (g : Nat) (c : Nat -> Int) (s : Pst) (b : Nat) (w0 w : World) (hP : Pt w0 w g c) (hL : Lay c s) (hO : s.Ok) (hb : b < s.nb) (hm : s.B b < s.R b) (ho : s.R b < s.D b) (sB sD fB fD : Nat)
 (hx : (s.D b - s.R b < s.R b - s.B b /\ sB = s.B b /\ sD = s.R b /\ fB = s.R b /\ fD = s.D b) \/ (¬ s.D b - s.R b < s.R b - s.B b /\ sB = s.R b /\ sD = s.D b /\ fB = s.B b /\ fD = s.R b)) :
 Calls Tryz.prog 189 #[.pointer (some ⟨g, 0, none⟩), .int .i64 b] w fun r w' => r = .returned (.tuple #[.int .i64 s.nb, .bool true, .nilIface]) /\ ∃ c', Pt w0 w' g c' /\ Lay c' (s.cut b sB sD fB fD (fD - fB)) /\ Kept (fun i => i = g) w w' := by
 obtain ⟨v1, v2, v3, v4⟩ := hO.iv b hb
 have hn := hO.n1
 have hf := hO.few2 hb (by omega)
 have hS := blocks_any g c w0 w hP
 rw [hL.nb] at hS
 have hl := lacks_ok g b s.nb w (by omega) (by omega)
 have c0 := hP.cell (i := 3002 + b * 3) (by omega)
 rw [hL.b b hb] at c0
 have c1 := hP.cell (i := 3002 + b * 3 + 1) (by omega)
 rw [hL.r b hb] at c1
 have c2 := hP.cell (i := 3002 + b * 3 + 2) (by omega)
 rw [hL.d b hb] at c2
 have e0 : (0 : Int) <= (b : Int) := by omega
 have e1 : (b : Int) < 1000 := by omega
 have hM := fun W => marks_any (s.B b) (s.R b) (s.D b) v1 (by omega) W
 have hT := fun W => others_any (s.B b) (s.R b) (s.D b) v2 (by omega) W
 have l0 : b < 1000 := by omega
 have HL : Hid (Lay c s /\ s.Ok /\ s.n <= 1000 /\ s.nb + 1 <= s.n) := ⟨hL, hO, hn, hf⟩
 have l1 : s.nb < 1000 := by omega
 have l2 : b < s.nb := hb
 have hfD : fB < fD /\ fD <= s.n := by omega
 obtain ⟨B, hB⟩ : ∃ B, B = s.B b := ⟨_, rfl⟩
 obtain ⟨R, hR⟩ : ∃ R, R = s.R b := ⟨_, rfl⟩
 obtain ⟨D, hD⟩ : ∃ D, D = s.D b := ⟨_, rfl⟩
 rw [<- hB] at c0 hM hT v1 v3 hm hx
 rw [<- hR] at c1 hM hT v1 v2 hm ho hx
 rw [<- hD] at c2 hM hT v2 v3 v4 ho hx
 obtain ⟨nb, hnb⟩ : ∃ nb, nb = s.nb := ⟨_, rfl⟩
 rw [<- hnb] at hS hl l1 l2 ⊢
 have HN : Hid (nb = s.nb) := hnb
 clear hB hR hD hnb
 have hgl := Arr.lt hP
 have hb1 : Below w.heap.size w (w.alloc (.cells #[.int .i64 B, .int .i64 R, .int .i64 D] 233)) := (Below.refl _ _).alloc (Nat.le_refl _) _
 have hn1 : (w.alloc (.cells #[.int .i64 B, .int .i64 R, .int .i64 D] 233)).heap[w.heap.size]? = some (.cells #[.int .i64 B, .int .i64 R, .int .i64 D] 233 (0, 0)) := heap_alloc_new _ _
 have H : Hid _ := And.intro hS (And.intro hl (And.intro hM (And.intro hT (And.intro hP (And.intro hb1 hn1)))))
 have m0 : ¬ ((R - B : Nat) : Int) = 0 := by omega
 have m1 : ¬ R - B = 0 := by omega
 have o0 : ¬ ((D - R : Nat) : Int) = 0 := by omega
 have o1 : ¬ D - R = 0 := by omega
 have m2 : decide (((R - B : Nat) : Int) = 0) = false := decide_eq_false m0
 have o2 : decide (((D - R : Nat) : Int) = 0) = false := decide_eq_false o0
 have m3 : (((R - B : Nat) : Int) == 0) = false := by simpa using m0
 have o3 : (((D - R : Nat) : Int) == 0) = false := by simpa using o0
 have HX : Hid ((D - R < R - B /\ sB = B /\ sD = R /\ fB = R /\ fD = D) \/ (¬ D - R < R - B /\ sB = R /\ sD = D /\ fB = B /\ fD = R)) := hx
 have HF : Hid (fB < fD /\ fD <= s.n) := hfD
 clear hS hl hP hL hO hn hf hM hT hb1 hn1 hb hm ho v1 v2 v3 v4 hx hfD
 go_enter Tryz.func189, Tryz.ntmps189
 go_upto_region 10 with (first
  | (go_at_call 180; refine Calls.mono H.out.1 ?_; rintro r w1 ⟨rfl, hw1⟩; obtain rfl := hw1.symm; clear hw1)
  | (go_at_call 179; refine Calls.mono H.out.2.1 ?_; rintro r w1 ⟨rfl, hw1⟩; obtain rfl := hw1.symm; clear hw1)
  | (go_at_call 203; refine Calls.mono (H.out.2.2.1 _) ?_; rintro r w1 ⟨rfl, hb1⟩; have y0 := cellu (cell0_of (k := 0) H.out.2.2.2.2.2.2 rfl) hb1; have y1 := cellu (cell0_of (k := 1) H.out.2.2.2.2.2.2 rfl) hb1; have y2 := cellu (cell0_of (k := 2) H.out.2.2.2.2.2.2 rfl) hb1)
  | (go_at_call 204; refine Calls.mono (H.out.2.2.2.1 _) ?_; rintro r w2 ⟨rfl, hb2'⟩; have hb2 := hb1.trans (hb2'.mono hb1.size); clear y0 y1 y2 hb2' hb1; have hbl := (hb2.block _ (t_lt H.out.2.2.2.2.2.2)).trans H.out.2.2.2.2.2.2; have y0 := cell0_of (k := 0) hbl rfl; have y1 := cell0_of (k := 1) hbl rfl; have y2 := cell0_of (k := 2) hbl rfl; have HW : Hid (Pt w0 w2 g c /\ Below w.heap.size w w2 /\ w2.heap[w.heap.size]? = some (.cells #[.int .i64 B, .int .i64 R, .int .i64 D] 233 (0, 0))) := ⟨(H.out.2.2.2.2.1.below H.out.2.2.2.2.2.1).below hb2, H.out.2.2.2.2.2.1.trans (hb2.mono H.out.2.2.2.2.2.1.size), hbl⟩; have hbA : Below w2.heap.size w2 (w2.alloc (.cells #[.int .i64 R, .int .i64 R, .int .i64 D] 233)) := (Below.refl _ _).alloc (Nat.le_refl _) _; have z0 := cellu y0 hbA; have z1 := cellu y1 hbA; clear hbA hb2 hbl c0 c1 c2))
 obtain ⟨w4, hw4⟩ : ∃ w4, w4 = (w2.alloc (.cells #[.int .i64 R, .int .i64 R, .int .i64 D] 233)).alloc (.cells #[.int .i64 B, .int .i64 B, .int .i64 R] 233) := ⟨_, rfl⟩
 rw [<- hw4]
 have hbA : Below w2.heap.size w2 (w2.alloc (.cells #[.int .i64 R, .int .i64 R, .int .i64 D] 233)) := (Below.refl _ _).alloc (Nat.le_refl _) _
 have hbB : Below w2.heap.size w2 w4 := by rw [hw4]; exact hbA.alloc hbA.size _
 have hs4 : w4.heap[w2.heap.size]? = some (.cells #[.int .i64 R, .int .i64 R, .int .i64 D] 233 (0, 0)) := by
  rw [hw4]
  exact ((MapKept.heap_alloc _ _).2 _ (by simp)).trans (MapKept.heap_alloc w2 _).1
 have hf4 : w4.heap[w2.heap.size + 1]? = some (.cells #[.int .i64 B, .int .i64 B, .int .i64 R] 233 (0, 0)) := by rw [hw4]; exact two_alloc w2 _ _
 have hsz : w.heap.size < w2.heap.size := t_lt HW.out.2.2
 have u0 := cellu y0 hbB
 have u1 := cellu y1 hbB
 have u2 := cellu y2 hbB
 have HS : Hid (Pt w0 w4 g c /\ Below w.heap.size w w4 /\ w4.heap[w2.heap.size]? = some (.cells #[.int .i64 R, .int .i64 R, .int .i64 D] 233 (0, 0)) /\ w4.heap[w2.heap.size + 1]? = some (.cells #[.int .i64 B, .int .i64 B, .int .i64 R] 233 (0, 0))) := ⟨HW.out.1.below hbB, HW.out.2.1.trans (hbB.mono HW.out.2.1.size), hs4, hf4⟩
 clear hw4 hbA hbB hs4 hf4 y0 y1 y2 z0 z1
 go_region_held3 (fun w' => (w'.cell? ⟨w.heap.size, 0, none⟩ = some (.int .i64 B) /\ w'.cell? ⟨w.heap.size, 1, none⟩ = some (.int .i64 R) /\ w'.cell? ⟨w.heap.size, 2, none⟩ = some (.int .i64 D)) /\ Hid (Below w4.heap.size w4 w')) (first | exact rg_up3 hb5 (by assumption) | exact ⟨⟨u0, u1, u2⟩, ((Below.refl _ _).drew : Below w4.heap.size w4 w4.drew)⟩ | go_keep)
  ((first
    | (go_at_call 203; refine Calls.mono (H.out.2.2.1 _) ?_; rintro r w5 ⟨rfl, hb5⟩)
    | (go_at_call 204; refine Calls.mono (H.out.2.2.2.1 _) ?_; rintro r w5 ⟨rfl, hb5⟩)
    | fail))
 have hb45 : Below w4.heap.size w4 w5 := rgb3 (by assumption)
 rename_i hS3
 clear hS3 hb5 u0 u1 u2
 obtain ⟨st, hst⟩ : ∃ st, st = w2.heap.size := ⟨_, rfl⟩
 have hs5 := (hb45.block _ (t_lt HS.out.2.2.1)).trans HS.out.2.2.1
 have hf5 := (hb45.block _ (t_lt HS.out.2.2.2)).trans HS.out.2.2.2
 rw [<- hst] at hs5 hf5 hsz ⊢
 have HS5 : Hid (Pt w0 w5 g c /\ Below w.heap.size w w5 /\ w5.heap[st]? = some (.cells #[.int .i64 R, .int .i64 R, .int .i64 D] 233 (0, 0)) /\ w5.heap[st + 1]? = some (.cells #[.int .i64 B, .int .i64 B, .int .i64 R] 233 (0, 0))) := ⟨HS.out.1.below hb45, HS.out.2.1.trans (hb45.mono HS.out.2.1.size), hs5, hf5⟩
 have x0 := cell0_of (k := 0) hs5 rfl
 have x1 := cell0_of (k := 1) hs5 rfl
 have x2 := cell0_of (k := 2) hs5 rfl
 have x3 := cell0_of (k := 0) hf5 rfl
 have x4 := cell0_of (k := 1) hf5 rfl
 have x5 := cell0_of (k := 2) hf5 rfl
 have g0 := blk_free hs5 0
 have g1 := blk_free hs5 1
 have g2 := blk_free hs5 2
 have g3 := blk_free hf5 0
 have g4 := blk_free hf5 1
 have g5 := blk_free hf5 2
 have hne1 : ¬ st = st + 1 := by omega
 have hne2 : ¬ st + 1 = st := by omega
 clear hst hs5 hf5 hb45 HS HW
 go_upto_if 62 with fail
 go_cut [] (fun wx => SpM w0 w wx g c st (st + 1) sB sD fB fD)
 case first =>
  by_cases hlt : D - R < R - B
  ·have hlt2 : ((D - R : Nat) : Int) < ((R - B : Nat) : Int) := by omega
   go_wp2_with fail
   go_meet
   case rel =>
    rcases HX.out with ⟨_, h1, h2, h3, h4⟩ | ⟨h, _⟩
    ·have h5 : SpM w0 w w5 g c st (st + 1) R D B R := ⟨HS5.out.1, Kept.of_below HS5.out.2.1, HS5.out.2.2.1, HS5.out.2.2.2⟩
     rw [h1, h2, h3, h4]
     exact h5.swap hsz hgl H.out.2.2.2.2.1.bl.size
    ·exact absurd hlt h
  ·have hlt2 : ¬ ((D - R : Nat) : Int) < ((R - B : Nat) : Int) := by omega
   go_wp2_with fail
   go_meet
   case rel =>
    rcases HX.out with ⟨h, _⟩ | ⟨_, h1, h2, h3, h4⟩
    ·exact absurd h hlt
    ·rw [h1, h2, h3, h4]
     exact ⟨HS5.out.1, Kept.of_below HS5.out.2.1, HS5.out.2.2.1, HS5.out.2.2.2⟩
 case rest =>
  have hnx : ¬ g = st := by omega
  have hnx2 : ¬ st = g := by omega
  have hny : ¬ g = st + 1 := by omega
  have hny2 : ¬ st + 1 = g := by omega
  have HC : Hid (SpM w0 w wc g c st (st + 1) sB sD fB fD) := hcut
  clear x0 x1 x2 x3 x4 x5 g0 g1 g2 g3 g4 g5 HS5 hne1 hne2 H
  have g0 := hcut.pt.cell (i := 1) (by omega)
  rw [HL.out.1.nb, <- HN.out] at g0
  have f0 := hcut.pt.free 1
  have e2 : (0 : Int) <= (nb : Int) := by omega
  have e3 : (nb : Int) < 1000 := by omega
  have e4 : IntKind.i64.wrap ((nb : Int) + 1) = (nb : Int) + 1 := by rw [IntKind.wrap_i64]; omega
  have j1 : ¬ 3002 + b * 3 = 3002 + nb * 3 := by omega
  have j2 : ¬ b * 3 = nb * 3 := by omega
  have j3 : ¬ b = nb := by omega
  have j4 : ¬ nb = b := by omega
  clear hcut
  go_upto_region 14 with fail
  have hD := HC.out.set (by omega) 1 ((nb : Int) + 1)
  obtain ⟨wd, hwd⟩ : ∃ wd, wd = wc.setCell ⟨g, 1, none⟩ (.int .i64 ((nb : Int) + 1)) := ⟨_, rfl⟩
  rw [<- hwd] at hD ⊢
  clear hwd HC g0 f0
  have HC : Hid (SpM w0 w wd g (upd c 1 ((nb : Int) + 1)) st (st + 1) sB sD fB fD) := hD
  have x0 := cell0_of (k := 0) hD.cs rfl
  have x1 := cell0_of (k := 1) hD.cs rfl
  have x2 := cell0_of (k := 2) hD.cs rfl
  have x3 := cell0_of (k := 0) hD.cf rfl
  have x4 := cell0_of (k := 1) hD.cf rfl
  have x5 := cell0_of (k := 2) hD.cf rfl
  have g1 := hD.pt.cell (i := 3002 + b * 3) (by omega)
  have g2 := hD.pt.cell (i := 3002 + b * 3 + 1) (by omega)
  have g3 := hD.pt.cell (i := 3002 + b * 3 + 2) (by omega)
  have g4 := hD.pt.cell (i := 3002 + nb * 3) (by omega)
  have g5 := hD.pt.cell (i := 3002 + nb * 3 + 1) (by omega)
  have g6 := hD.pt.cell (i := 3002 + nb * 3 + 2) (by omega)
  have f1 := hD.pt.free (3002 + b * 3)
  have f2 := hD.pt.free (3002 + b * 3 + 1)
  have f3 := hD.pt.free (3002 + b * 3 + 2)
  have f4 := hD.pt.free (3002 + nb * 3)
  have f5 := hD.pt.free (3002 + nb * 3 + 1)
  have f6 := hD.pt.free (3002 + nb * 3 + 2)
  clear hD
  go_region
  have hE := ((((((HC.out.set (by omega) (3002 + b * 3) sB).set (by omega) (3002 + b * 3 + 1) sB).set (by omega) (3002 + b * 3 + 2) sD).set (by omega) (3002 + nb * 3) fB).set (by omega) (3002 + nb * 3 + 1) fB).set (by omega) (3002 + nb * 3 + 2) fD).below (Below.refl _ _).drew
  obtain ⟨we, hwe⟩ : ∃ we, we = ((((((wd.setCell ⟨g, 3002 + b * 3, none⟩ (.int .i64 sB)).setCell ⟨g, 3002 + b * 3 + 1, none⟩ (.int .i64 sB)).setCell ⟨g, 3002 + b * 3 + 2, none⟩ (.int .i64 sD)).setCell ⟨g, 3002 + nb * 3, none⟩ (.int .i64 fB)).setCell ⟨g, 3002 + nb * 3 + 1, none⟩ (.int .i64 fB)).setCell ⟨g, 3002 + nb * 3 + 2, none⟩ (.int .i64 fD)).drew := ⟨_, rfl⟩
  rw [<- hwe] at hE ⊢
  clear hwe HC x0 x1 x2 x3 x4 x5 g1 g2 g3 g4 g5 g6 f1 f2 f3 f4 f5 f6 j1 j2 j3 j4 e4
  have HE : Hid (SpM w0 w we g (cutC c b nb sB sD fB fD) st (st + 1) sB sD fB fD) := hE
  have x3 := cell0_of (k := 0) hE.cf rfl
  have x5 := cell0_of (k := 2) hE.cf rfl
  clear hE
  have hPa := part_any g fB fD HF.out.1 (by have := HF.out.2; have := HL.out.2.2.1; omega) we
  have HPa : Hid _ := And.intro hPa trivial
  clear hPa
  go_wp2_with (go_at_call 182; refine Calls.mono HPa.out.1 ?_; rintro r w6 ⟨rfl, hw6⟩; obtain rfl := hw6.symm; clear hw6)
  obtain ⟨K, hK⟩ : ∃ K, K = fD - fB := ⟨_, rfl⟩
  rw [<- hK]
  have hKI : ((fD - fB : Nat) : Int) = (K : Int) := by rw [hK]
  have HK : Hid (K = fD - fB) := hK
  clear hK HPa x3 x5
  go_loopg [95] K (fun q kv wr => ∃ (j : Nat) (cj : Nat -> Int), kv = .int .i64 j /\ j <= K /\ K - j <= q /\ Pt w0 wr g cj /\ Lay cj (s.cut b sB sD fB fD j) /\ Kept (fun i => i = g) w wr)
  case atStart => exact ⟨0, _, rfl, Nat.zero_le _, Nat.le_refl _, HE.out.pt, by rw [HN.out]; exact cut_lay HL.out.1 HL.out.2.2.1, HE.out.kp⟩
  case round =>
   obtain ⟨j, cj, rfl, hj, hq, hPj, hLj, hKj⟩ := hrel
   by_cases hjK : j < K
   ·have p1 : (j : Int) < (K : Int) := by omega
    have p2 : (0 : Int) <= (j : Int) := by omega
    have hfj : fB + j < s.n := by have := HF.out; have := HK.out; omega
    have hn := HL.out.2.2.1
    obtain ⟨q1, q2⟩ := HL.out.2.1.ep (fB + j) hfj
    have y1 := hPj.cell (i := 2 + (fB + j)) (by omega)
    rw [hLj.e (fB + j) hfj, <- Nat.add_assoc] at y1
    have y2 := hPj.cell (i := 2002 + s.E (fB + j)) (by omega)
    have y3 := hPj.free (2002 + s.E (fB + j))
    have HLn := cut_next HL.out.2.1 hLj hfj
    have hE' : (s.cut b sB sD fB fD j).E (fB + j) = s.E (fB + j) := rfl
    rw [hE'] at y1
    have p3 : (0 : Int) <= (s.E (fB + j) : Int) := by omega
    have p4 : (s.E (fB + j) : Int) < 1000 := by omega
    have p5 : j + 1 <= 1000 := by omega
    rw [<- HN.out] at HLn
    generalize s.E (fB + j) = ee at y1 y2 y3 HLn p3 p4
    have HJ : Hid (Pt w0 wr g cj /\ Lay (upd cj (2002 + ee) nb) (s.cut b sB sD fB fD (j + 1)) /\ Kept (fun i => i = g) w wr) := ⟨hPj, HLn, hKj⟩
    clear hPj hLj hKj HLn hE' q1 q2 hn hfj
    go_wp2_with fail
    go_roundg (K - (j + 1))
    case measure => omega
    case rel => exact ⟨j + 1, _, by go_num, by omega, Nat.le_refl _, HJ.out.1.set _ _, HJ.out.2.1, HJ.out.2.2.trans (Kept.setCell _ _ _ _)⟩
   ·have p1 : ¬ (j : Int) < (K : Int) := by omega
    have hjK' : j = K := by omega
    rw [hjK'] at hLj
    have HJ : Hid (Pt w0 wr g cj /\ Lay cj (s.cut b sB sD fB fD K) /\ Kept (fun i => i = g) w wr) := ⟨hPj, hLj, hKj⟩
    clear hPj hLj hKj
    go_wp2_with fail
    refine bodyPost_ret (v := .tuple #[.int .i64 nb, .bool true, .nilIface]) (by simp [results, Tryz.results189, go_sem]) rfl ?_
    exact ⟨rfl, cj, HJ.out.1, by rw [<- HK.out]; exact HJ.out.2.1, HJ.out.2.2⟩
def Pst.splits (s : Pst) (b : Nat) : Prop := s.B b < s.R b /\ s.R b < s.D b
instance (s : Pst) (b : Nat) : Decidable (s.splits b) := inferInstanceAs (Decidable (_ /\ _))
def Pst.split (s : Pst) (b : Nat) : Pst :=
 if s.splits b then (if s.D b - s.R b < s.R b - s.B b then s.cut b (s.B b) (s.R b) (s.R b) (s.D b) (s.D b - s.R b) else s.cut b (s.R b) (s.D b) (s.B b) (s.R b) (s.R b - s.B b)) else s.clear b
theorem split_ok {s : Pst} (hO : s.Ok) {b : Nat} (hb : b < s.nb) : (s.split b).Ok /\ (s.split b).n = s.n /\ (s.split b).P = s.P /\ (s.split b).E = s.E /\ ∀ y, y < s.n -> (s.split b).isM y = (s.isM y && decide (s.O y ≠ b)) := by
 unfold Pst.split
 by_cases h : s.splits b
 ·rw [if_pos h]
  by_cases h2 : s.D b - s.R b < s.R b - s.B b
  ·rw [if_pos h2]
   have h3 := cut_ok hO hb h.1 h.2 (.inl ⟨rfl, rfl, rfl, rfl⟩)
   exact ⟨h3.1, rfl, rfl, rfl, h3.2⟩
  ·rw [if_neg h2]
   have h3 := cut_ok hO hb h.1 h.2 (.inr ⟨rfl, rfl, rfl, rfl⟩)
   exact ⟨h3.1, rfl, rfl, rfl, h3.2⟩
 ·rw [if_neg h]
  have h3 := clear_ok hO hb
  exact ⟨h3.1, rfl, rfl, rfl, h3.2⟩
theorem split_any (g : Nat) (c : Nat -> Int) (s : Pst) (b : Nat) (w0 w : World) (hP : Pt w0 w g c) (hL : Lay c s) (hO : s.Ok) (hb : b < s.nb) :
 Calls Tryz.prog 189 #[.pointer (some ⟨g, 0, none⟩), .int .i64 b] w fun r w' => r = .returned (.tuple #[.int .i64 (if s.splits b then s.nb else 0 : Nat), .bool (decide (s.splits b)), .nilIface]) /\ ∃ c', Pt w0 w' g c' /\ Lay c' (s.split b) /\ Kept (fun i => i = g) w w' := by
 have v := hO.iv b hb
 have hn := hO.n1
 have hf := hO.few
 unfold Pst.split
 by_cases h : s.splits b
 ·rw [if_pos h, if_pos h, decide_eq_true h]
  by_cases h2 : s.D b - s.R b < s.R b - s.B b
  ·rw [if_pos h2]
   exact split_some g c s b w0 w hP hL hO hb h.1 h.2 _ _ _ _ (.inl ⟨h2, rfl, rfl, rfl, rfl⟩)
  ·rw [if_neg h2]
   exact split_some g c s b w0 w hP hL hO hb h.1 h.2 _ _ _ _ (.inr ⟨h2, rfl, rfl, rfl, rfl⟩)
 ·rw [if_neg h, if_neg h, decide_eq_false h]
  refine (split_none g c s b w0 w hP hL hO hb (by unfold Pst.splits at h; omega)).mono ?_
  rintro r w' ⟨rfl, h1, h2⟩
  exact ⟨rfl, _, h1, clear_lay hL hn (by omega), h2⟩
end Go.Proofs.YthcpliinddjkhaaGreatDoor
/- Contracts of three functions of Go's library at this program, laid by the shelf's own tools in plain words. -/
namespace Go.Proofs
open Go.Shelf
def Tryz.lays128_ren : Go.Shelf.Ren := ⟨fun | 128 => 220 | n => n, fun | 51 => 290 | 3 => 3 | 4 => 4 | 46 => 210 | 5 => 5 | 9 => 9 | n => n, fun | n => n⟩
def Tryz.lays125_ren : Go.Shelf.Ren := ⟨fun | 125 => 199 | 128 => 220 | 129 => 221 | n => n, fun | 46 => 210 | 3 => 3 | 51 => 290 | 53 => 140 | 4 => 4 | 5 => 5 | 9 => 9 | n => n, fun | n => n⟩
theorem Tryz.lays125 : Go.Proofs.Lays.n125 Tryz.prog Tryz.lays125_ren := {
 mixed := by kernel_rfl
 f125 := Tryz.func199.trans (congrArg some (by kernel_rfl))
 f128 := Tryz.func220.trans (congrArg some (by kernel_rfl))
 f129 := Tryz.func221.trans (congrArg some (by kernel_rfl))
 t3 := Tryz.underlying3
 a3 := Tryz.isAgg3
 z3 := Tryz.sizeOf3
 v3 := Tryz.zeroValue3
 t4 := Tryz.underlying4
 a4 := Tryz.isAgg4
 z4 := Tryz.sizeOf4
 v4 := Tryz.zeroValue4
 t5 := Tryz.underlying5
 a5 := Tryz.isAgg5
 z5 := Tryz.sizeOf5
 v5 := Tryz.zeroValue5
 t9 := Tryz.underlying9
 a9 := Tryz.isAgg9
 z9 := Tryz.sizeOf9
 v9 := Tryz.zeroValue9
 t46 := Tryz.underlying210
 a46 := Tryz.isAgg210
 z46 := Tryz.sizeOf210
 v46 := Tryz.zeroValue210
 t51 := Tryz.underlying290
 a51 := Tryz.isAgg290
 z51 := Tryz.sizeOf290
 v51 := Tryz.zeroValue290
 t53 := Tryz.underlying140
 a53 := Tryz.isAgg140
 z53 := Tryz.sizeOf140
 v53 := Tryz.zeroValue140 }
theorem Tryz.bits_Len (x : Int) (w : World) (h0 : 0 <= x) (h1 : x <= 18446744073709551615) :
 Calls Tryz.prog 199 #[.int .u64 x] w fun e w' => e = .returned (.int .i64 (Lib.bitLen x.toNat)) /\ w' = w := Any.bits_Len Tryz.lays125 x w h0 h1
def Tryz.lays215_ren : Go.Shelf.Ren := ⟨fun | 215 => 197 | n => n, fun | 3 => 3 | 4 => 4 | n => n, fun | n => n⟩
def Tryz.lays122_ren : Go.Shelf.Ren := ⟨fun | 122 => 178 | 215 => 197 | n => n, fun | 3 => 3 | 4 => 4 | n => n, fun | n => n⟩
def Tryz.lays129_ren : Go.Shelf.Ren := ⟨fun | 129 => 221 | n => n, fun | 53 => 140 | 3 => 3 | 4 => 4 | 46 => 210 | 5 => 5 | 9 => 9 | n => n, fun | n => n⟩
def Tryz.lays189_ren : Go.Shelf.Ren := ⟨fun | 189 => 183 | 125 => 199 | 257 => 198 | 128 => 220 | 129 => 221 | 294 => 211 | 295 => 212 | 296 => 213 | 297 => 214 | 298 => 215 | 299 => 216 | 216 => 217 | 300 => 218 | 301 => 219 | 328 => 232 | 329 => 233 | 330 => 234 | 331 => 235 | 332 => 236 | 215 => 197 | 343 => 240 | n => n, fun | 28 => 57 | 3 => 3 | 46 => 210 | 0 => 0 | 51 => 290 | 53 => 140 | 4 => 4 | 183 => 284 | 182 => 283 | 131 => 196 | 5 => 5 | 9 => 9 | 218 => 301 | 222 => 269 | 228 => 308 | 229 => 228 | n => n, fun | n => n⟩
theorem Tryz.lays189 : Go.Proofs.Lays.n189 Tryz.prog Tryz.lays189_ren := {
 mixed := by kernel_rfl
 f125 := Tryz.func199.trans (congrArg some (by kernel_rfl))
 f128 := Tryz.func220.trans (congrArg some (by kernel_rfl))
 f129 := Tryz.func221.trans (congrArg some (by kernel_rfl))
 f189 := Tryz.func183.trans (congrArg some (by kernel_rfl))
 f215 := Tryz.func197.trans (congrArg some (by kernel_rfl))
 f216 := Tryz.func217.trans (congrArg some (by kernel_rfl))
 f257 := Tryz.func198.trans (congrArg some (by kernel_rfl))
 f294 := Tryz.func211.trans (congrArg some (by kernel_rfl))
 f295 := Tryz.func212.trans (congrArg some (by kernel_rfl))
 f296 := Tryz.func213.trans (congrArg some (by kernel_rfl))
 f297 := Tryz.func214.trans (congrArg some (by kernel_rfl))
 f298 := Tryz.func215.trans (congrArg some (by kernel_rfl))
 f299 := Tryz.func216.trans (congrArg some (by kernel_rfl))
 f300 := Tryz.func218.trans (congrArg some (by kernel_rfl))
 f301 := Tryz.func219.trans (congrArg some (by kernel_rfl))
 f328 := Tryz.func232.trans (congrArg some (by kernel_rfl))
 f329 := Tryz.func233.trans (congrArg some (by kernel_rfl))
 f330 := Tryz.func234.trans (congrArg some (by kernel_rfl))
 f331 := Tryz.func235.trans (congrArg some (by kernel_rfl))
 f332 := Tryz.func236.trans (congrArg some (by kernel_rfl))
 f343 := Tryz.func240.trans (congrArg some (by kernel_rfl))
 t0 := Tryz.underlying0
 a0 := Tryz.isAgg0
 z0 := Tryz.sizeOf0
 v0 := Tryz.zeroValue0
 t3 := Tryz.underlying3
 a3 := Tryz.isAgg3
 z3 := Tryz.sizeOf3
 v3 := Tryz.zeroValue3
 t4 := Tryz.underlying4
 a4 := Tryz.isAgg4
 z4 := Tryz.sizeOf4
 v4 := Tryz.zeroValue4
 t5 := Tryz.underlying5
 a5 := Tryz.isAgg5
 z5 := Tryz.sizeOf5
 v5 := Tryz.zeroValue5
 t9 := Tryz.underlying9
 a9 := Tryz.isAgg9
 z9 := Tryz.sizeOf9
 v9 := Tryz.zeroValue9
 t28 := Tryz.underlying57
 a28 := Tryz.isAgg57
 z28 := Tryz.sizeOf57
 v28 := Tryz.zeroValue57
 t46 := Tryz.underlying210
 a46 := Tryz.isAgg210
 z46 := Tryz.sizeOf210
 v46 := Tryz.zeroValue210
 t51 := Tryz.underlying290
 a51 := Tryz.isAgg290
 z51 := Tryz.sizeOf290
 v51 := Tryz.zeroValue290
 t53 := Tryz.underlying140
 a53 := Tryz.isAgg140
 z53 := Tryz.sizeOf140
 v53 := Tryz.zeroValue140
 t131 := Tryz.underlying196
 a131 := Tryz.isAgg196
 z131 := Tryz.sizeOf196
 v131 := Tryz.zeroValue196
 t182 := Tryz.underlying283
 a182 := Tryz.isAgg283
 z182 := Tryz.sizeOf283
 v182 := Tryz.zeroValue283
 t183 := Tryz.underlying284
 a183 := Tryz.isAgg284
 z183 := Tryz.sizeOf284
 v183 := Tryz.zeroValue284
 t218 := Tryz.underlying301
 a218 := Tryz.isAgg301
 z218 := Tryz.sizeOf301
 v218 := Tryz.zeroValue301
 t222 := Tryz.underlying269
 a222 := Tryz.isAgg269
 z222 := Tryz.sizeOf269
 v222 := Tryz.zeroValue269
 t228 := Tryz.underlying308
 a228 := Tryz.isAgg308
 z228 := Tryz.sizeOf308
 v228 := Tryz.zeroValue308
 t229 := Tryz.underlying228
 a229 := Tryz.isAgg228
 z229 := Tryz.sizeOf228
 v229 := Tryz.zeroValue228 }
open Go.Sort Go.RowKit in
theorem Tryz.slices_Sort_int (blk off cap : Nat) (zs : List Int) (w : World) (hH : Holds (Value.int .i64) w blk off zs.toArray) (hblk : blk < w.heap.size) (hsz : zs.length < 4611686018427387904) :
 Calls Tryz.prog 183 #[.slice (some ⟨blk, off, none⟩) zs.length cap] w fun e w' =>
  e = .returned (.tuple #[]) /\ ∃ n os, w' = grow (putRow (Value.int .i64) (Sort.ahead w n) blk off (zs.mergeSort fun x y => decide (x <= y)).toArray) os := Any.slices_Sort_int Tryz.lays189 blk off cap zs w hH hblk hsz
def Tryz.laysNm215_ren : Go.Shelf.Ren := ⟨fun | 15 => 181 | n => n, fun | 22 => 57 | 3 => 3 | 4 => 4 | n => n, fun | n => n⟩
def Tryz.laysNm237_ren : Go.Shelf.Ren := ⟨fun | 37 => 197 | n => n, fun | 3 => 3 | 4 => 4 | n => n, fun | n => n⟩
def Tryz.laysNm231_ren : Go.Shelf.Ren := ⟨fun | 31 => 217 | 37 => 197 | n => n, fun | 3 => 3 | 4 => 4 | n => n, fun | n => n⟩
def Tryz.laysSlE041_f181_ren : Go.Shelf.Ren := ⟨fun | 41 => 181 | n => n, fun | 22 => 57 | 23 => 3 | 4 => 4 | n => n, fun | n => n⟩
end Go.Proofs
/- slices.Sort of a list of numbers that is the call's own. -/
namespace Go.Proofs.YthcpliinddjkhaaGreatDoor
open Go.RowKit Go.Maps
theorem sortI_any (w : World) (B g cap : Nat) (zs : List Int) (h : OwnI w B (.slice (some ⟨g, 0, none⟩) zs.length cap) zs) (hn : zs.length <= 1000000) :
 Calls Tryz.prog 183 #[.slice (some ⟨g, 0, none⟩) zs.length cap] w fun e w' => e = .returned (.tuple #[]) /\ OwnI w' B (.slice (some ⟨g, 0, none⟩) zs.length cap) (zs.mergeSort fun x y => decide (x <= y)) /\ w.grownBy w' (some g) := by
 rcases h.2 with ⟨e, _⟩ | ⟨g', cap', cur, e, hg, hb, hc, hm, hs, ht⟩
 ·cases e
 injection e with e1 e2 e3
 have e4 := Option.some.inj e1
 injection e4 with e5
 subst e5; subst e3
 rw [Nat.mul_one] at ht
 refine (Tryz.slices_Sort_int g 0 cap zs w (holds_of_blockI hb ht) (t_lt hb) (by omega)).mono ?_
 rintro r w' ⟨rfl, n, os, rfl⟩
 have hl : (zs.mergeSort fun x y => decide (x <= y)).length = zs.length := List.length_mergeSort _
 refine ⟨rfl, ?_, grownBy_sortedI _⟩
 have := ownsRow_sortedI (n := n) (os := os) hl hg hb hc hm hs
 unfold OwnI
 rw [hl]
 exact this
theorem sort_perm (zs : List Int) : (zs.mergeSort fun x y => decide (x <= y)).Perm zs := List.mergeSort_perm _ _
theorem sort_rise (zs : List Int) : (zs.mergeSort fun x y => decide (x <= y)).Pairwise (· <= ·) := by
 have h := List.pairwise_mergeSort (le := fun x y : Int => decide (x <= y)) (fun a b c h1 h2 => by simp at *; omega) (fun a b => by simp; omega) zs
 exact h.imp fun h => by simpa using h
end Go.Proofs.YthcpliinddjkhaaGreatDoor
/- refine: a block's elements, rising. -/
namespace Go.Proofs.YthcpliinddjkhaaGreatDoor
open Go.RowKit Go.Maps
attribute [local go_sem ↓] Go.wp_at_zero Go.wp_at_succ
def Pst.mem (s : Pst) (b : Nat) : List Int := ((List.range s.n).filter fun e => decide (s.O e = b)).map fun e : Nat => (e : Int)
def Pst.room (s : Pst) (b : Nat) : List Int := (List.range (s.D b - s.B b)).map fun j : Nat => (s.E (s.B b + j) : Int)
theorem room_len (s : Pst) (b : Nat) : (s.room b).length = s.D b - s.B b := by simp [Pst.room]
theorem room_at (s : Pst) (b : Nat) {j : Nat} (hj : j < s.D b - s.B b) : (s.room b)[j]? = some (s.E (s.B b + j) : Int) := by simp [Pst.room, hj]
theorem mem_mem {s : Pst} {b : Nat} {z : Int} : z ∈ s.mem b ↔ ∃ e : Nat, e < s.n /\ s.O e = b /\ z = e := by
 simp only [Pst.mem, List.mem_map, List.mem_filter, List.mem_range, decide_eq_true_eq]
 exact ⟨fun ⟨e, ⟨h1, h2⟩, h3⟩ => ⟨e, h1, h2, h3.symm⟩, fun ⟨e, h1, h2, h3⟩ => ⟨e, ⟨h1, h2⟩, h3.symm⟩⟩
theorem mem_rise (s : Pst) (b : Nat) : (s.mem b).Pairwise (· < ·) := by
 unfold Pst.mem
 rw [List.pairwise_map]
 exact (List.pairwise_lt_range.filter _).imp fun h => by omega
theorem room_perm {s : Pst} (hO : s.Ok) {b : Nat} (hb : b < s.nb) : (s.room b).Perm (s.mem b) := by
 have v := hO.iv b hb
 refine (List.perm_ext_iff_of_nodup ?_ ((mem_rise s b).imp fun h => by omega)).2 fun z => ?_
 ·unfold Pst.room
  refine List.pairwise_map.2 (List.Pairwise.imp_of_mem (fun {x y} hx hy h => ?_) List.pairwise_lt_range)
  intro h2
  rw [List.mem_range] at hx hy
  have h3 : s.E (s.B b + x) = s.E (s.B b + y) := by omega
  have h4 := (hO.ep (s.B b + x) (by omega)).2
  have h5 := (hO.ep (s.B b + y) (by omega)).2
  rw [h3, h5] at h4
  omega
 ·rw [mem_mem]
  unfold Pst.room
  simp only [List.mem_map, List.mem_range]
  constructor
  ·rintro ⟨j, hj, rfl⟩
   exact ⟨s.E (s.B b + j), (hO.ep _ (by omega)).1, hO.ow b hb _ (by omega) (by omega), rfl⟩
  ·rintro ⟨e, he, ho, rfl⟩
   obtain ⟨o1, o2, o3⟩ := hO.o e he
   rw [ho] at o2 o3
   exact ⟨s.P e - s.B b, by omega, by rw [show s.B b + (s.P e - s.B b) = s.P e by omega, (hO.pe e he).2]⟩
theorem room_sort {s : Pst} (hO : s.Ok) {b : Nat} (hb : b < s.nb) : ((s.room b).mergeSort fun x y => decide (x <= y)) = s.mem b :=
 List.Perm.eq_of_pairwise (le := fun a b => a <= b) (fun a b _ _ h1 h2 => by omega) (sort_rise _) ((mem_rise s b).imp fun h => by omega) ((sort_perm _).trans (room_perm hO hb))
theorem mem_len {s : Pst} (hO : s.Ok) {b : Nat} (hb : b < s.nb) : (s.mem b).length = s.D b - s.B b := by rw [<- (room_perm hO hb).length_eq, room_len]
theorem Tryz.eqClI (w : World) (a : Option Addr) (n c n' c' : Nat) : (binOp .eql 57 (.slice a n c) (.slice none n' c')).run Tryz.prog w = .ok (.bool a.isNone) w := Lib.run_eql_slice_nil w _ _ a n c n' c' Tryz.underlying57
set_option maxRecDepth 100000 in
set_option maxHeartbeats 1000000 in
theorem cloneI_any (a : Addr) (cap : Nat) (zs : List Int) (w : World) (h0 : 0 < zs.length) (hn : zs.length <= 1000000) (hv : ∀ j u, (iC zs)[j]? = some u -> w.cell? (a.add j) = some u) :
 Calls Tryz.prog 181 #[.slice (some a) zs.length cap] w fun r w' => ∃ g k, r = .returned (.slice (some ⟨g, 0, none⟩) zs.length k) /\ OwnI w' w.heap.size (.slice (some ⟨g, 0, none⟩) zs.length k) zs /\ Below w.heap.size w w' /\ w.heap.size <= g := by
 obtain ⟨i0, hi0, hz0, hz1, hz2⟩ := info_parts Tryz.infoI4
 have hq := Tryz.eqClI
 have hl : (iC zs).length = zs.length := by simp [iC]
 obtain ⟨n, hN⟩ : ∃ n, n = zs.length := ⟨_, rfl⟩
 have A : Aside (∀ j u, (iC zs)[j]? = some u -> w.cell? (a.add j) = some u) := hv
 have HN : Hid (n = zs.length /\ 0 < zs.length) := ⟨hN, h0⟩
 rw [<- hN] at hn hl ⊢
 clear hv hN h0
 go_enter Tryz.func181, Tryz.ntmps181
 go_wp2_with (at_builtin; refine wpList_append_own _ rfl _ _ 57 rfl w.heap.size 3 i0 (.int .i64 0) 1 8 Tryz.underlying57 hi0 hz0 hz1 hz2 rfl (by decide) _ _ _ rfl (World.ownsRow_made w #[] 0 (Nat.le_refl _) (Nat.zero_le _) (by simp)) a n cap (iC zs) rfl ?qc1 ?qc2 ?qc3 ?qc4 ?qc5 ?qc6 ?_)
 case qc1 => omega
 case qc2 =>
  intro j u hj
  have h1 := A.out j u hj
  exact (((Below.refl _ w).alloc (Nat.le_refl _) _).cell (World.block_lt_of_cell? w _ h1)).trans h1
 case qc3 => exact iC_one zs
 case qc4 => unfold maxLen; omega
 case qc5 => omega
 case qc6 => simp
 intro v' w1 hown hgrow hnil
 go_wp2
 go_ret
 have h1 : OwnI w1 w.heap.size v' zs := by
  have h1 := hown
  rw [HN.out.1] at h1
  unfold OwnI
  simpa using h1
 have hb : Below w.heap.size w w1 := ((Below.refl _ w).alloc (Nat.le_refl _) _).grown hgrow (by simp) (by intro k hk; simp [Value.ownBlock] at hk; omega)
 rcases h1.2 with ⟨rfl, h0⟩ | ⟨g, k, cur, rfl, hg, h3⟩
 ·have := HN.out.2; omega
 ·rw [HN.out.1]
  exact ⟨g, k, rfl, h1, hb, hg⟩
end Go.Proofs.YthcpliinddjkhaaGreatDoor
/- refine: Members. -/
namespace Go.Proofs.YthcpliinddjkhaaGreatDoor
open Go.RowKit Go.Maps
attribute [local go_sem ↓] Go.wp_at_zero Go.wp_at_succ
theorem rgu2 {w2 wa wb : World} {a0 a1 : Addr} {x0 x1 : Value} (hb : Below wa.heap.size wa wb) (h : (wa.cell? a0 = some x0 /\ wa.cell? a1 = some x1) /\ Hid (Below w2.heap.size w2 wa)) : (wb.cell? a0 = some x0 /\ wb.cell? a1 = some x1) /\ Hid (Below w2.heap.size w2 wb) :=
 ⟨⟨cellu h.1.1 hb, cellu h.1.2 hb⟩, (h.2.out.trans (hb.mono h.2.out.size) : Below w2.heap.size w2 wb)⟩
set_option maxRecDepth 100000 in
set_option maxHeartbeats 4000000 in
theorem members_ok (g : Nat) (c : Nat -> Int) (s : Pst) (b : Nat) (w0 w : World) (hP : Pt w0 w g c) (hL : Lay c s) (hO : s.Ok) (hb : b < s.nb) :
 Calls Tryz.prog 158 #[.pointer (some ⟨g, 0, none⟩), .int .i64 b] w fun r w' => ∃ u, r = .returned (.tuple #[u, .nilIface]) /\ OwnI w' w.heap.size u (s.mem b) /\ Below w.heap.size w w' := by
 obtain ⟨v1, v2, v3, v4⟩ := hO.iv b hb
 have hn := hO.n1
 have hf := hO.few
 have hS := blocks_any g c w0 w hP
 rw [hL.nb] at hS
 have hl := lacks_ok g b s.nb w (by omega) (by omega)
 have c0 := hP.cell (i := 3002 + b * 3) (by omega)
 rw [hL.b b hb] at c0
 have c2 := hP.cell (i := 3002 + b * 3 + 2) (by omega)
 rw [hL.d b hb] at c2
 have e0 : (0 : Int) <= (b : Int) := by omega
 have e1 : (b : Int) < 1000 := by omega
 have hPa := fun W => part_any g (s.B b) (s.D b) v3 (by omega) W
 have hCl : ∀ W, Pt w0 W g c -> Calls Tryz.prog 181 #[.slice (some ⟨g, 2 + s.B b, none⟩) (s.D b - s.B b) (s.D b - s.B b)] W fun r w' => ∃ h k, r = .returned (.slice (some ⟨h, 0, none⟩) (s.D b - s.B b) k) /\ OwnI w' W.heap.size (.slice (some ⟨h, 0, none⟩) (s.D b - s.B b) k) (s.room b) /\ Below W.heap.size W w' /\ W.heap.size <= h := fun W hW => by
  have h := cloneI_any ⟨g, 2 + s.B b, none⟩ (s.D b - s.B b) (s.room b) W (by rw [room_len]; omega) (by rw [room_len]; omega) (fun j u hj => by
   unfold iC at hj
   rw [List.getElem?_map] at hj
   obtain ⟨z, hz, rfl⟩ := Option.map_eq_some_iff.1 hj
   have hj2 : j < s.D b - s.B b := by rw [<- room_len]; exact (List.getElem?_eq_some_iff.1 hz).1
   rw [room_at s b hj2] at hz
   have h3 := hW.cell (i := 2 + (s.B b + j)) (by omega)
   rw [hL.e _ (by omega)] at h3
   obtain rfl := Option.some.inj hz
   rw [<- Nat.add_assoc] at h3
   have h4 : (⟨g, 2 + s.B b, none⟩ : Addr).add j = ⟨g, 2 + s.B b + j, none⟩ := by simp [Addr.add]
   rw [h4]
   exact h3)
  rw [room_len] at h
  exact h
 have hSo : ∀ (W : World) (B h k : Nat), OwnI W B (.slice (some ⟨h, 0, none⟩) (s.D b - s.B b) k) (s.room b) -> Calls Tryz.prog 183 #[.slice (some ⟨h, 0, none⟩) (s.D b - s.B b) k] W fun e w' => e = .returned (.tuple #[]) /\ OwnI w' B (.slice (some ⟨h, 0, none⟩) (s.D b - s.B b) k) (s.mem b) /\ W.grownBy w' (some h) := fun W B h k hW => by
  have h1 := sortI_any W B h k (s.room b) (by rw [room_len]; exact hW) (by rw [room_len]; omega)
  rw [room_len, room_sort hO hb] at h1
  exact h1
 have HPt : Hid (Pt w0 w g c) := hP
 have H : Hid _ := And.intro hS (And.intro hl (And.intro hPa (And.intro hCl hSo)))
 clear hS hl hPa hCl hSo hP hL hn hf hb v1 v2 v3 v4
 generalize s.room b = rm at H
 generalize s.mem b = mm at H ⊢
 generalize s.D b - s.B b = n at H
 generalize s.B b = B at *
 generalize s.D b = D at *
 generalize s.nb = nb at H
 clear hO
 go_enter Tryz.func158, Tryz.ntmps158
 go_upto_region 4 with (first
  | (go_at_call 180; refine Calls.mono H.out.1 ?_; rintro r w1 ⟨rfl, hw1⟩; obtain rfl := hw1.symm; clear hw1)
  | (go_at_call 179; refine Calls.mono H.out.2.1 ?_; rintro r w1 ⟨rfl, hw1⟩; obtain rfl := hw1.symm; clear hw1))
 go_region_held3 (fun w' => (w'.cell? ⟨g, 3002 + b * 3, none⟩ = some (.int .i64 B) /\ w'.cell? ⟨g, 3002 + b * 3 + 2, none⟩ = some (.int .i64 D)) /\ Hid (Below w.heap.size w w')) (first | exact rgu2 hb5 (by assumption) | exact ⟨⟨c0, c2⟩, ((Below.refl _ _).drew : Below w.heap.size w w.drew)⟩ | go_keep)
  ((first
    | (go_at_call 182; refine Calls.mono (H.out.2.2.1 _) ?_; rintro r w5 ⟨rfl, hw5⟩; obtain rfl := hw5.symm; clear hw5)
    | (go_at_call 181; refine Calls.mono (H.out.2.2.2.1 _ (HPt.out.below (rgb3 (by assumption)))) ?_; rintro r w5 ⟨h, k, rfl, hO5, hb5, hh5⟩)
    | fail))
 have hbw : Below w.heap.size w w5 := rgb3 (by assumption)
 have HB : Hid (OwnI w5 w.heap.size (.slice (some ⟨h, 0, none⟩) n k) rm /\ Below w.heap.size w w5 /\ w.heap.size <= h) := ⟨hO5, hbw, hh5⟩
 rename_i hS3
 clear hS3 hO5 hb5 hh5 hbw
 go_wp2_with (go_at_call 183; refine Calls.mono (H.out.2.2.2.2 w5 w.heap.size h k HB.out.1) ?_; rintro r w6 ⟨rfl, hO6, hg6⟩; have H6 : Hid _ := And.intro hO6 (HB.out.2.1.grown hg6 HB.out.2.1.size (by intro q hq; obtain rfl := Option.some.inj hq; exact HB.out.2.2)); clear hO6 hg6)
 go_ret2
 exact ⟨_, rfl, H6.out.1, H6.out.2⟩
end Go.Proofs.YthcpliinddjkhaaGreatDoor
/- The one form of classes: who is together, the form of the form, when two have one. Plain facts. -/
namespace Go.Proofs.YthcpliinddjkhaaGreatDoor.Sy
theorem place_lt {c : Int} {l : List Int} : place c l < l.length ↔ c ∈ l := by
 induction l with
 | nil => simp [place]
 | cons a r ih =>
   unfold place
   by_cases h : a = c
   ·simp [h]
   ·rw [if_neg h, List.length_cons, Nat.add_lt_add_iff_right, ih, List.mem_cons]
    exact ⟨fun h1 => .inr h1, fun h1 => h1.elim (fun e => absurd e.symm h) id⟩
theorem place_not {c : Int} {l : List Int} (h : c ∉ l) : place c l = l.length := by
 have h1 := place_le c l
 have h2 : ¬ place c l < l.length := fun h2 => h (place_lt.1 h2)
 omega
theorem place_at {c : Int} {l : List Int} (h : c ∈ l) : l[place c l]? = some c := by
 induction l with
 | nil => simp at h
 | cons a r ih =>
   unfold place
   by_cases h1 : a = c
   ·simp [h1]
   ·rw [if_neg h1, List.getElem?_cons_succ]
    exact ih ((List.mem_cons.1 h).elim (fun e => absurd e.symm h1) id)
theorem place_left {c : Int} {a : List Int} (b : List Int) (h : c ∈ a) : place c (a ++ b) = place c a := by
 induction a with
 | nil => simp at h
 | cons x r ih =>
   simp only [List.cons_append, place]
   by_cases h1 : x = c
   ·simp [h1]
   ·rw [if_neg h1, if_neg h1, ih ((List.mem_cons.1 h).elim (fun e => absurd e.symm h1) id)]
def more (c : Int) (seen : List Int) : List Int := if place c seen < seen.length then seen else seen ++ [c]
theorem more_mem (c : Int) (seen : List Int) : c ∈ more c seen := by
 unfold more
 split
 ·next h => exact place_lt.1 h
 ·exact List.mem_append_right _ (List.mem_singleton.2 rfl)
theorem more_pre (c : Int) (seen : List Int) : ∃ t, more c seen = seen ++ t := by
 unfold more
 split
 ·exact ⟨[], by simp⟩
 ·exact ⟨[c], rfl⟩
theorem more_place (c : Int) (seen : List Int) : place c (more c seen) = place c seen := by
 unfold more
 split
 ·rfl
 ·next h =>
  have h1 : c ∉ seen := fun h1 => h (place_lt.2 h1)
  rw [place_app c seen [c] (fun x hx e => h1 (by rw [<- e]; exact hx)), place_not h1]
  simp [place]
theorem seenG_pre (l : List Int) : ∀ seen, ∃ t, seenG seen l = seen ++ t := by
 induction l with
 | nil => intro seen; exact ⟨[], by simp [seenG]⟩
 | cons c r ih =>
   intro seen
   obtain ⟨t, ht⟩ := ih (more c seen)
   obtain ⟨u, hu⟩ := more_pre c seen
   refine ⟨u ++ t, ?_⟩
   show seenG (more c seen) r = _
   rw [ht, hu, List.append_assoc]
theorem canonG_map (l : List Int) : ∀ seen, canonG seen l = l.map fun z => place z (seenG seen l) := by
 induction l with
 | nil => intro seen; rfl
 | cons c r ih =>
   intro seen
   show place c seen :: canonG (more c seen) r = place c (seenG (more c seen) r) :: r.map fun z => place z (seenG (more c seen) r)
   rw [ih]
   congr 1
   obtain ⟨t, ht⟩ := seenG_pre r (more c seen)
   rw [ht, place_left t (more_mem c seen), more_place]
theorem canon_map (l : List Int) : canon l = l.map fun z => place z (seenG [] l) := canonG_map l []
end Go.Proofs.YthcpliinddjkhaaGreatDoor.Sy
/- Contracts of the program's numbered, Canon, Together and Classes. -/
namespace Go.Proofs.YthcpliinddjkhaaGreatDoor
open Go.RowKit Go.Maps
attribute [local go_sem ↓] Go.wp_at_zero Go.wp_at_succ
structure MapI (D : DataW Unit) (ns : List Int) : Prop where
 yes : ∀ (i : Nat) (z : Int), ns[i]? = some z -> Maps.has D (.int .i64 z) = true /\ D.atKey (.int .i64 z) (.lit (.int .i64 0)) = .lit (.int .i64 i)
 no : ∀ z : Int, z ∉ ns -> Maps.has D (.int .i64 z) = false
 size : Maps.size D = ns.length
theorem MapI.nil : MapI (.map []) [] := ⟨fun i s h => by simp at h, fun s _ => rfl, rfl⟩
theorem ikey_inj {a b : Int} (h : Lit.int .i64 a = Lit.int .i64 b) : a = b := by injection h
theorem MapI.snoc {D : DataW Unit} {ns : List Int} (h : MapI D ns) (hD : IsMap D) (hT : Tidy D) (s : Int) (hs : s ∉ ns) : MapI (D.put (.int .i64 s) (.lit (.int .i64 ns.length))) (ns ++ [s]) := by
 refine ⟨fun i t ht => ?_, fun t ht => ?_, ?_⟩
 ·rcases Nat.lt_or_ge i ns.length with hi | hi
  ·rw [List.getElem?_append_left hi] at ht
   have hne : Lit.int .i64 t ≠ Lit.int .i64 s := fun e => hs (ikey_inj e ▸ List.mem_of_getElem? ht)
   rw [has_put_other hne, atKey_put_other hne]
   exact h.yes i t ht
  ·rw [List.getElem?_append_right hi] at ht
   have hi0 : i - ns.length = 0 := by
    have := (List.getElem?_eq_some_iff.1 ht).1
    simp at this; omega
   rw [hi0] at ht
   simp at ht
   subst ht
   have : i = ns.length := by omega
   subst this
   have hk : WideAt.IsKeyLit (.int .i64 s) := trivial
   exact ⟨has_put_same hD hk _, atKey_put_same hD hk _ _⟩
 ·have hne : Lit.int .i64 t ≠ Lit.int .i64 s := fun e => ht (by rw [ikey_inj e]; simp)
  rw [has_put_other hne]
  exact h.no t fun hm => ht (by simp [hm])
 ·rw [size_put hT, h.no s hs]
  simp [h.size]
theorem Sy.place_mem {z : Int} {l : List Int} : Sy.place z l < l.length ↔ z ∈ l := by
 induction l with
 | nil => simp [Sy.place]
 | cons a r ih =>
   unfold Sy.place
   by_cases h : a = z
   ·simp [h]
   ·have h2 : z ≠ a := fun e => h e.symm
    simp [h, h2, <- ih]
theorem Sy.place_no {z : Int} {l : List Int} (h : z ∉ l) : Sy.place z l = l.length := by
 have h1 := Sy.place_le z l
 have h2 : ¬ Sy.place z l < l.length := fun e => h (Sy.place_mem.1 e)
 omega
theorem Tryz.lawI7 : Keyed Tryz.prog 3 := int_keyed Tryz.underlying3
theorem Tryz.zeroI7 (w : World) : (zeroValue 3).run Tryz.prog w = .ok (.int .i64 0) w := by kernel_rfl
structure NumAt (w wr : World) (zs : List Int) (n i : Nat) (D : DataW Unit) (seen : List Int) : Prop where
 arr : Arr 3 w wr (w.heap.size + 1) (natC (Sy.canonG [] (zs.take i)) ++ List.replicate (n - i) (.int .i64 0))
 own : wr.ownsMap (H := Unit) Tryz.prog 3 (plainElem Tryz.prog 3) w.heap.size seen.length D
 map : MapI D seen
theorem Sy.top_canonG (l : List Int) : ∀ seen : List Int, max seen.length (Sy.top (Sy.canonG seen l)) = (Sy.seenG seen l).length := by
 induction l with
 | nil => intro seen; simp [Sy.canonG, Sy.top, Sy.seenG]
 | cons c r ih =>
   intro seen
   simp only [Sy.canonG, Sy.top, Sy.seenG]
   rw [<- ih]
   have h1 := Sy.place_le c seen
   split <;> (try simp) <;> omega
theorem Sy.together_eq (zs : List Int) : Sy.together zs = (Sy.seenG [] zs).length := by
 rw [<- Sy.top_canonG zs []]
 simp [Sy.together, Sy.canon]
theorem arr_mapTurn {w wr w3 : World} {gi : Nat} {vs : List Value} {bm : Nat} (h : Arr 3 w wr gi vs) (hg : wr.grownBy w3 (some bm)) (hb : w.heap.size <= bm) (hne : bm ≠ gi) : Arr 3 w w3 gi vs :=
 h.kept (Kept.of_grown hg) fun b e => by injection e with e; subst e; exact ⟨hb, hne⟩
theorem num_step {w w3 w4 : World} {zs : List Int} {n i k : Nat} {D2 : DataW Unit} {seen s2 : List Int} {z : Int} (hz : zs[i]? = some z) (hi : i < n) (hn : n = zs.length) (hs : seen = Sy.seenG [] (zs.take i)) (hA : Arr 3 w w3 (w.heap.size + 1) (natC (Sy.canonG [] (zs.take i)) ++ List.replicate (n - i) (.int .i64 0)))
 (hk : k = Sy.place z seen) (h4 : w4 = w3.setCell ⟨w.heap.size + 1, i, none⟩ (.int .i64 (k : Int))) (ho : w3.ownsMap (H := Unit) Tryz.prog 3 (plainElem Tryz.prog 3) w.heap.size s2.length D2) (hm : MapI D2 s2) :
 NumAt w w4 zs n (i + 1) D2 s2 := by
 subst h4
 have hC : (Sy.canonG [] (zs.take i)).length = i := by rw [Sy.canonG_len, List.length_take]; omega
 have hAs := hA.set i (.int .i64 (k : Int))
 rw [natC_step _ n i k hC hi] at hAs
 refine ⟨?_, ho.setCell (by simp) _, hm⟩
 rw [Sy.canon_step hz, <- hs, <- hk]
 exact hAs
set_option maxRecDepth 100000 in
set_option maxHeartbeats 8000000 in
theorem numbered_any (v : Value) (zs : List Int) (w : World) (hv : HasI w v zs) (hn : zs.length <= 100000) (hw : I64s zs) :
 Calls Tryz.prog 169 #[v] w fun e w' => ∃ u, e = .returned (.tuple #[u, .int .i64 (Sy.together zs : Nat)]) /\ OwnI w' w.heap.size u (natI (Sy.canon zs)) /\ Below w.heap.size w w' := by
 obtain ⟨ao, cap, rfl, hcs⟩ := hv
 obtain ⟨n, hN⟩ : ∃ n, n = zs.length := ⟨_, rfl⟩
 have HH : Hid _ := And.intro hcs (And.intro hN hw)
 rw [<- hN] at hn ⊢
 clear hcs hN hw
 have hmm := @run_makeMap Tryz.prog
 have hmk := makeI n (by omega) (w.alloc (.map #[] 0))
 go_enter Tryz.func169, Tryz.ntmps169
 go_wp2_with fail
 clear hmk hmm
 go_loopg [16] n (fun q iv wr => ∃ (i : Nat) (D : DataW Unit) (seen : List Int), q = n - i /\ i <= n /\ iv = .int .i64 i /\ seen = Sy.seenG [] (zs.take i) /\ NumAt w wr zs n i D seen)
 case atStart =>
  refine ⟨0, .map [], [], rfl, Nat.zero_le _, rfl, by simp [Sy.seenG], ?_, ?_, MapI.nil⟩
  ·have h1 := arr_new 3 (.int .i64 0) rfl n (w.alloc (.map #[] 0))
   have h2 := h1.back ((Below.refl _ w).alloc (Nat.le_refl _) _)
   simpa [Sy.canonG, natC] using h2
  ·have := World.ownsMap_made (H := Unit) w Tryz.prog 3 (plainElem Tryz.prog 3)
   exact this.alloc _
 case round =>
  obtain ⟨i, D, seen, rfl, hi, rfl, hseen, hM⟩ := hrel
  by_cases hlt : i < n
  ·obtain ⟨z, hz⟩ : ∃ z, zs[i]? = some z := ⟨zs[i]'(by have := HH.out.2.1; omega), List.getElem?_eq_getElem _⟩
   obtain ⟨a, rfl, c0⟩ := HH.out.1 i z hz
   have cz : wr.cell? (a.add i) = some (.int .i64 z) := (hM.arr.bl.cell (World.block_lt_of_cell? w _ c0)).trans c0
   have hzw : (Lit.int .i64 z).wf = true := HH.out.2.2 z (List.mem_of_getElem? hz)
   have hkey : keyOf Tryz.prog 3 (.int .i64 z) = some (.int .i64 z) := keyOf_int_mk Tryz.underlying3 hzw
   have q0 : (0 : Int) <= (i : Int) := by omega
   have q1 : (i : Int) < (n : Int) := by omega
   have hsl : seen.length <= i := by
    have := Sy.seenG_len (zs.take i) []
    rw [<- hseen, List.length_take] at this
    simp at this; omega
   have hix : (natC (Sy.canonG [] (zs.take i)) ++ List.replicate (n - i) (Value.int .i64 0))[i]? = some (.int .i64 0) := by
    rw [List.getElem?_append_right (by rw [natC_len, Sy.canonG_len, List.length_take]; omega), natC_len, Sy.canonG_len, List.length_take, List.getElem?_replicate, if_pos (by have := HH.out.2.1; omega)]
   have hst := Sy.seen_step hz
   rw [<- hseen] at hst
   by_cases hin : z ∈ seen
   ·obtain ⟨hy1, hy2⟩ := hM.map.yes _ z (Sy.place_at hin)
    have cx := hM.arr.cell hix
    have cf := hM.arr.free i
    rw [if_pos (Sy.place_mem.2 hin)] at hst
    have HO : Hid (wr.ownsMap (H := Unit) Tryz.prog 3 (plainElem Tryz.prog 3) w.heap.size seen.length D) := hM.own
    have HY : Hid (D.atKey (.int .i64 z) (.lit (.int .i64 0)) = .lit (.int .i64 (Sy.place z seen : Nat))) := hy2
    have HM : Hid _ := And.intro hM (And.intro hseen (And.intro hz hst))
    clear hM hseen hz hst hy2 hix c0 hin hzw
    obtain ⟨k, hk⟩ : ∃ k, k = Sy.place z seen := ⟨_, rfl⟩
    rw [<- hk] at HY
    have HK : Hid (k = Sy.place z seen) := hk
    clear hk
    go_wp2_with (at_lookup; refine wpList_lookup_own_ok_int _ rfl _ _ 259 rfl 3 3 .i64 Tryz.lawI7 Tryz.underlying259 Tryz.underlying3 (Tryz.zeroI7 _) w.heap.size seen.length D rfl HO.out _ _ rfl hkey ?_; rw [hy1]; intro c hat hwc; obtain rfl : c = (k : Int) := (by rw [HY.out] at hat; injection hat with hat; injection hat with _ hat; exact hat.symm); clear hat hwc)
    go_roundg (n - (i + 1))
    case measure => omega
    case rel =>
     exact ⟨i + 1, D, seen, rfl, by omega, by go_num, HM.out.2.2.2.symm, num_step HM.out.2.2.1 hlt HH.out.2.1 HM.out.2.1 HM.out.1.arr HK.out rfl HO.out HM.out.1.map⟩
   ·have hy1 := hM.map.no z hin
    rw [if_neg fun e => hin (Sy.place_mem.1 e)] at hst
    have HO : Hid (wr.ownsMap (H := Unit) Tryz.prog 3 (plainElem Tryz.prog 3) w.heap.size seen.length D) := hM.own
    have hml : seen.length < maxLen := by unfold maxLen; omega
    have hsz : Maps.size D = seen.length := hM.map.size
    obtain ⟨m, hm⟩ : ∃ m, m = seen.length := ⟨_, rfl⟩
    have HM : Hid _ := And.intro hM (And.intro hseen (And.intro hz (And.intro hst (And.intro hin (And.intro hix hm)))))
    rw [<- hm] at HO hml hsz hsl
    have hwf : (Lit.int .i64 (m : Int)).wf = true := WalkArith.wf_i64 (by omega)
    have HS : Hid _ := hsz
    clear hM hseen hz hst hix c0 hin hzw hm hsz
    go_wp2_with (first
     | (at_lookup; refine wpList_lookup_own_ok_int _ rfl _ _ 259 rfl 3 3 .i64 Tryz.lawI7 Tryz.underlying259 Tryz.underlying3 (Tryz.zeroI7 _) w.heap.size m D rfl HO.out _ _ rfl hkey ?_; rw [hy1]; intro c hat hwc; clear hat hwc)
     | (at_len; refine wpList_len_own _ rfl _ 259 rfl 3 3 Tryz.underlying259 _ w.heap.size m D rfl HO.out ?_; rw [HS.out])
     | (at_mapUpdate; refine wpList_mapUpdate_own _ rfl _ _ _ 259 rfl 3 3 Tryz.lawI7 Tryz.underlying259 _ w.heap.size m D rfl HO.out hml _ _ _ rfl rfl hkey _ [] (plainElem_int Tryz.underlying3 hwf) ?_; intro w3 hown3 hgrow3; have hA3 := arr_mapTurn HM.out.1.arr hgrow3 (Nat.le_refl _) (by omega); have cx := hA3.cell HM.out.2.2.2.2.2.1; have cf := hA3.free i; have H3 : Hid _ := And.intro hA3 hown3; clear hA3 hown3 hgrow3))
    go_roundg (n - (i + 1))
    case measure => omega
    case rel =>
     have hm := HM.out.2.2.2.2.2.2
     have h3 := H3.out.2
     have hmp := HM.out.1.map.snoc HM.out.1.own.isMap (HM.out.1.own.tidy Tryz.lawI7) z HM.out.2.2.2.2.1
     rw [<- hm] at hmp
     have el : m + 1 = (seen ++ [z]).length := by simp [hm]
     rw [el] at h3
     exact ⟨i + 1, _, seen ++ [z], rfl, by omega, by go_num, HM.out.2.2.2.1.symm, num_step HM.out.2.2.1 hlt HH.out.2.1 HM.out.2.1 H3.out.1 (by rw [Sy.place_no HM.out.2.2.2.2.1, hm]) rfl h3 hmp⟩
  ·obtain rfl : i = n := by omega
   have hsz : Maps.size D = seen.length := hM.map.size
   have HO : Hid (wr.ownsMap (H := Unit) Tryz.prog 3 (plainElem Tryz.prog 3) w.heap.size seen.length D) := hM.own
   have HM : Hid _ := And.intro hM (And.intro hseen hsz)
   obtain ⟨m, hm⟩ : ∃ m, m = seen.length := ⟨_, rfl⟩
   rw [<- hm] at HO
   have HS : Hid (Maps.size D = m) := hsz.trans hm.symm
   have HN : Hid _ := hm
   clear hM hseen hsz hm
   go_wp2_with (at_len; refine wpList_len_own _ rfl _ 259 rfl 3 3 Tryz.underlying259 _ w.heap.size m D rfl HO.out ?_; rw [HS.out])
   go_ret2
   have hA := HM.out.1.arr
   have hl : i = zs.length := HH.out.2.1
   rw [hl, Nat.sub_self, List.replicate_zero, List.append_nil, List.take_length] at hA
   have how := (hA.own (by rw [natC_len, Sy.canonG_len]; unfold maxLen; omega))
   rw [natC_len, Sy.canonG_len] at how
   refine ⟨.slice (some ⟨w.heap.size + 1, 0, none⟩) zs.length zs.length, by rw [HN.out, HM.out.2.1, hl, List.take_length, <- Sy.together_eq]; rfl, ?_, HM.out.1.arr.bl⟩
   unfold OwnI
   rw [iC_nat, show (natI (Sy.canon zs)).length = zs.length by simp [natI, Sy.canon, Sy.canonG_len]]
   exact how
end Go.Proofs.YthcpliinddjkhaaGreatDoor
/- Contract of the book's SameInts. -/
namespace Go.Proofs.YthcpliinddjkhaaGreatDoor
open Go.RowKit Go.Maps
theorem take_both {α : Type} {a b : List α} {j : Nat} {x : α} (ha : a[j]? = some x) (hb : b[j]? = some x) (h : a.take j = b.take j) : a.take (j + 1) = b.take (j + 1) := by
 rw [take_succ_of ha, take_succ_of hb, h]
theorem eq_len {α : Type} {a b : List α} {n : Nat} (ha : a.length = n) (hb : b.length = n) (h : a.take n = b.take n) : a = b := by
 rw [List.take_of_length_le (by omega), List.take_of_length_le (by omega)] at h
 exact h
set_option maxRecDepth 100000 in
set_option maxHeartbeats 1000000 in
theorem sameInts_b (va vb : Value) (za zb : List Int) (w : World) (hn : za.length <= 1000000000000000) (hm : zb.length <= 1000000000000000) (hA : HasI w va za) (hB : HasI w vb zb) :
 Calls Tryz.prog 19 #[va, vb] w fun e w' => e = .returned (.bool (za == zb)) /\ Below w.heap.size w w' := by
 obtain ⟨ao, cap, rfl, hcA⟩ := hA
 obtain ⟨ao', cap', rfl, hcB⟩ := hB
 by_cases hlen : za.length = zb.length
 ·obtain ⟨n, hN⟩ : ∃ n, n = za.length := ⟨_, rfl⟩
  have HH : Hid _ := And.intro hcA (And.intro hcB (And.intro hN (hN.trans hlen)))
  rw [<- hlen, <- hN]
  rw [<- hN] at hn
  clear hcA hcB hN hlen hm
  have q : ((n : Int) != (n : Int)) = false := by simp
  go_enter Tryz.func19, Tryz.ntmps19
  go_wp2
  go_loopg [5] n (fun g i wr => ∃ j m : Nat, g = n - j /\ j <= n /\ i = .int .i64 j /\ za.take j = zb.take j /\ wr = w.drewN m)
  case atStart => exact ⟨0, 0, rfl, Nat.zero_le _, rfl, rfl, rfl⟩
  case round =>
   obtain ⟨j, m, rfl, hj, rfl, heq, rfl⟩ := hrel
   have HQ : Hid _ := heq
   clear heq
   by_cases hlt : j < n
   ·obtain ⟨x, hx⟩ : ∃ z, za[j]? = some z := ⟨za[j]'(by have := HH.out.2.2.1; omega), List.getElem?_eq_getElem _⟩
    obtain ⟨y, hy⟩ : ∃ z, zb[j]? = some z := ⟨zb[j]'(by have := HH.out.2.2.2; omega), List.getElem?_eq_getElem _⟩
    obtain ⟨a, rfl, c0⟩ := HH.out.1 j x hx
    obtain ⟨b, rfl, d0⟩ := HH.out.2.1 j y hy
    have q0 : (0 : Int) <= (j : Int) := by omega
    have q1 : (j : Int) < (n : Int) := by omega
    by_cases hxy : x = y
    ·subst hxy
     have HT : Hid _ := take_both hx hy HQ.out
     clear hx hy
     go_wp2_with fail
     go_quiet (fail)
     go_wp2
     go_roundg (n - (j + 1))
     case measure => omega
     case rel => exact ⟨j + 1, _, rfl, by omega, by go_num, HT.out, by first | rfl | exact World.drewN_drewN _ _ _⟩
    ·have e1 : (x == y) = false := by simpa using hxy
     have HF : Hid ((za == zb) = false) := (by
      rw [beq_eq_false_iff_ne]
      rintro rfl
      rw [hx] at hy
      exact hxy (Option.some.inj hy) : (za == zb) = false)
     clear hx hy hxy
     go_wp2_with fail
     go_quiet (fail)
     go_wp2
     go_ret
     exact ⟨by rw [HF.out]; rfl, by first | exact below_drewN (below_drewN (Below.refl _ _) _) _ | exact below_drewN (Below.refl _ _) _⟩
   ·obtain rfl : j = n := by omega
    have q1 : ¬ (j : Int) < (j : Int) := by omega
    have HF : Hid ((za == zb) = true) := (by
     rw [beq_iff_eq]
     exact eq_len HH.out.2.2.1.symm HH.out.2.2.2.symm HQ.out : (za == zb) = true)
    go_wp2
    go_ret
    exact ⟨by rw [HF.out]; rfl, below_drewN (Below.refl _ _) _⟩
 ·have q : ((za.length : Int) != (zb.length : Int)) = true := by rw [bne_iff_ne]; omega
  have HF : Hid ((za == zb) = false) := (by rw [beq_eq_false_iff_ne]; rintro rfl; exact hlen rfl : (za == zb) = false)
  clear hcA hcB hlen
  go_enter Tryz.func19, Tryz.ntmps19
  go_wp2
  go_ret
  exact ⟨by rw [HF.out]; rfl, Below.refl _ _⟩
end Go.Proofs.YthcpliinddjkhaaGreatDoor
/- Contract of slices.Equal of numbers. -/
namespace Go.Proofs.YthcpliinddjkhaaGreatDoor
open Go.RowKit Go.Maps
end Go.Proofs.YthcpliinddjkhaaGreatDoor
/- Contracts of slices.Equal of numbers, and of the program's Canon, Together and Classes. -/
namespace Go.Proofs.YthcpliinddjkhaaGreatDoor
open Go.RowKit Go.Maps
namespace Sy
end Sy
set_option maxRecDepth 100000 in
theorem pCanon : PCanon := fun v zs W hv hn hw => by
 have hC := numbered_any v zs W hv hn hw
 go_enter Tryz.func153, Tryz.ntmps153
 go_wp2_with (go_at_call 169; refine hC.mono ?_; rintro r w1 ⟨u, rfl, hO, hb⟩; have HO : Hid _ := And.intro hO hb; clear hO hb)
 go_ret
 exact ⟨u, rfl, HO.out.1, HO.out.2⟩
end Go.Proofs.YthcpliinddjkhaaGreatDoor
/- refine: Classes. -/
namespace Go.Proofs.YthcpliinddjkhaaGreatDoor
open Go.RowKit Go.Maps
attribute [local go_sem ↓] Go.wp_at_zero Go.wp_at_succ
def Pst.own (s : Pst) : List Int := (List.range s.n).map fun e : Nat => (s.O e : Int)
theorem own_len (s : Pst) : s.own.length = s.n := by simp [Pst.own]
theorem own_has {g : Nat} {c : Nat -> Int} {s : Pst} {w0 w : World} (hP : Pt w0 w g c) (hL : Lay c s) (hn : s.n <= 1000) (k : Nat) : HasI w (.slice (some ⟨g, 2002, none⟩) s.own.length k) s.own := by
 refine ⟨some ⟨g, 2002, none⟩, k, rfl, fun i z hz => ⟨_, rfl, ?_⟩⟩
 have hi : i < s.n := by rw [<- own_len]; exact (List.getElem?_eq_some_iff.1 hz).1
 have h1 : s.own[i]? = some (s.O i : Int) := by simp [Pst.own, hi]
 obtain rfl := Option.some.inj (hz.symm.trans h1)
 have h2 := hP.cell (i := 2002 + i) (by omega)
 rw [hL.o i hi] at h2
 have h4 : (⟨g, 2002, none⟩ : Addr).add i = ⟨g, 2002 + i, none⟩ := by
  unfold Addr.add
  by_cases hj : i = 0
  ·subst hj; rfl
  ·simp [hj]
 rw [h4]
 exact h2
theorem own_i64 {s : Pst} (hO : s.Ok) : I64s s.own := fun z hz => by
 simp only [Pst.own, List.mem_map, List.mem_range] at hz
 obtain ⟨e, he, rfl⟩ := hz
 have h1 := (hO.o e he).1
 have h2 := hO.few
 have h3 := hO.n1
 simp only [Lit.wf, IntKind.min, IntKind.max, IntKind.signed, IntKind.bits]
 simp
 omega
set_option maxRecDepth 100000 in
set_option maxHeartbeats 4000000 in
theorem classes_any (g : Nat) (c : Nat -> Int) (s : Pst) (w0 w : World) (hP : Pt w0 w g c) (hL : Lay c s) (hO : s.Ok) (h0 : 0 < s.n) :
 Calls Tryz.prog 142 #[.pointer (some ⟨g, 0, none⟩)] w fun r w' => ∃ u, r = .returned u /\ OwnI w' w.heap.size u (natI (Sy.canon s.own)) /\ Below w.heap.size w w' := by
 have hn := hO.n1
 have c0 := hP.cell (i := 0) (by omega)
 rw [hL.n] at c0
 have hCn : ∀ W, Below w.heap.size w W -> Calls Tryz.prog 153 #[.slice (some ⟨g, 2002, none⟩) s.n s.n] W fun r w' => ∃ u, r = .returned u /\ OwnI w' W.heap.size u (natI (Sy.canon s.own)) /\ Below W.heap.size W w' := fun W hW => by
  have h := pCanon (.slice (some ⟨g, 2002, none⟩) s.own.length s.n) s.own W (own_has (hP.below hW) hL hn s.n) (by rw [own_len]; omega) (own_i64 hO)
  rw [own_len] at h
  exact h
 have H : Hid _ := And.intro hCn trivial
 generalize natI (Sy.canon s.own) = cs at H ⊢
 have p1 : (0 : Int) <= (s.n : Int) := by omega
 have p2 : (s.n : Int) <= 1000 := by omega
 have p3 : ¬ s.n = 0 := by omega
 generalize s.n = n at *
 clear hCn hP hL hO
 go_enter Tryz.func142, Tryz.ntmps142
 go_upto_region 3 with fail
 go_region_held3 (fun w' => (w'.cell? ⟨g, 0, none⟩ = some (.int .i64 n) /\ w'.cell? ⟨g, 0, none⟩ = some (.int .i64 n)) /\ Hid (Below w.heap.size w w')) (first | exact rgu2 hb5 (by assumption) | exact ⟨⟨c0, c0⟩, ((Below.refl _ _).drew : Below w.heap.size w w.drew)⟩ | go_keep)
  ((first
    | (go_at_call 153; refine Calls.mono (H.out.1 _ (rgb3 (by assumption))) ?_; rintro r w5 ⟨u, rfl, hO5, hb5⟩)
    | fail))
 have hbw : Below w.heap.size w w5 := rgb3 (by assumption)
 have HB : Hid (OwnI w5 w.heap.size u cs /\ Below w.heap.size w w5) := ⟨hO5, hbw⟩
 go_wp2_with fail
 go_ret
 exact ⟨_, rfl, HB.out.1, HB.out.2⟩
end Go.Proofs.YthcpliinddjkhaaGreatDoor
/- What Split makes of the elements' blocks. Plain facts. -/
namespace Go.Proofs.YthcpliinddjkhaaGreatDoor
open Go.RowKit Go.Maps
theorem clear_O (s : Pst) (b : Nat) (h : ¬ s.splits b) : (s.split b).O = s.O := by unfold Pst.split; rw [if_neg h]; rfl
theorem split_O {s : Pst} (hO : s.Ok) {b : Nat} (hb : b < s.nb) {e : Nat} (he : e < s.n) : (s.split b).O e = if s.splits b /\ s.O e = b /\ s.isM e = decide (2 * (s.R b - s.B b) <= s.D b - s.B b) then s.nb else s.O e := by
 have v := hO.iv b hb
 have o := hO.o e he
 by_cases h : s.splits b
 ·obtain ⟨h1, h2⟩ := _root_.id h
  unfold Pst.split
  rw [if_pos h]
  by_cases h3 : s.D b - s.R b < s.R b - s.B b
  ·rw [if_pos h3, decide_eq_false (show ¬ 2 * (s.R b - s.B b) <= s.D b - s.B b by omega)]
   show (if s.R b <= s.P e /\ s.P e < s.R b + (s.D b - s.R b) then s.nb else s.O e) = _
   by_cases h5 : s.R b <= s.P e /\ s.P e < s.R b + (s.D b - s.R b)
   ·have h6 := hO.ow b hb (s.P e) (by omega) (by omega)
    rw [(hO.pe e he).2] at h6
    have h7 : s.isM e = false := decide_eq_false (by rw [h6]; omega)
    rw [if_pos h5, if_pos ⟨h, h6, h7⟩]
   ·rw [if_neg h5, if_neg]
    rintro ⟨_, h6, h7⟩
    have h8 := of_decide_eq_false h7
    rw [h6] at h8 o
    omega
  ·rw [if_neg h3, decide_eq_true (show 2 * (s.R b - s.B b) <= s.D b - s.B b by omega)]
   show (if s.B b <= s.P e /\ s.P e < s.B b + (s.R b - s.B b) then s.nb else s.O e) = _
   by_cases h5 : s.B b <= s.P e /\ s.P e < s.B b + (s.R b - s.B b)
   ·have h6 := hO.ow b hb (s.P e) (by omega) (by omega)
    rw [(hO.pe e he).2] at h6
    have h7 : s.isM e = true := decide_eq_true (by rw [h6]; omega)
    rw [if_pos h5, if_pos ⟨h, h6, h7⟩]
   ·rw [if_neg h5, if_neg]
    rintro ⟨_, h6, h7⟩
    have h8 := of_decide_eq_true h7
    rw [h6] at h8 o
    omega
 ·rw [clear_O s b h, if_neg (fun h9 => h h9.1)]
end Go.Proofs.YthcpliinddjkhaaGreatDoor
