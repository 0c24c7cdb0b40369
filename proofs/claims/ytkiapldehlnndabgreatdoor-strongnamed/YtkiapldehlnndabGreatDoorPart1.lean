/- Texts of this claim, joined: RfSplit0, RfPart, RfSplit, RfSplit2, Shelf, SoInts, RfMembers0, RfMembers, SyPure, SyCanon, BookApp, BXEdges, SyRight, SyForms. -/
import Derived.Test.YtkiapldehlnndabGreatDoorPart0
import Derived.Shelf.Small.Bits
import Derived.Shelf.Small.Wraps
import Derived.Shelf.Strconv.Itoa0
import Derived.Shelf.Strconv.Itoa1
import Derived.Shelf.LaysM
import Derived.Shelf.Strconv.Itoa2
import Derived.Shelf.Sort.Plain
import Derived.Shelf.Strconv.AppendUint10
import Derived.Shelf.Strconv.AppendInt10
import Derived.Shelf.Strconv.AppendIntPublic10
import Derived.Ground.Names2Prog
import Derived.Shelf.Slices.CompactI
import Derived.Test.YtkiapldehlnndabGreatDoorProg
import Derived.Sort.OwnSortedInts
import Derived.Lib.SliceRun
import GoSem.Claim
import Derived.Deep.QuietTactic
import Derived.BigQuiet
import Derived.ArgAppend
/- refine: what Split makes of a partition. -/
namespace Go.Proofs.YtkiapldehlnndabGreatDoor
open Go.RowKit Go.Maps
def Pst.clear (s : Pst) (b : Nat) : Pst := { s with R := upd s.R b (s.B b) }
theorem clear_lay {c : Nat → Int} {s : Pst} (hL : Lay c s) (hn : s.n ≤ 1000) {b : Nat} (hb : b < 1000) : Lay (upd c (3002 + b * 3 + 1) (s.B b)) (s.clear b) := by
  refine ⟨?_, ?_, fun k hk => ?_, fun k hk => ?_, fun k hk => ?_, fun k hk => ?_, fun k hk => ?_, fun k hk => ?_⟩
  · rw [upd_ne _ _ (by omega)]; exact hL.n
  · rw [upd_ne _ _ (by omega)]; exact hL.nb
  · have hk' : k < s.n := hk
    rw [upd_ne _ _ (by omega)]; exact hL.e k hk'
  · have hk' : k < s.n := hk
    rw [upd_ne _ _ (by omega)]; exact hL.p k hk'
  · have hk' : k < s.n := hk
    rw [upd_ne _ _ (by omega)]; exact hL.o k hk'
  · have hk' : k < s.nb := hk
    rw [upd_ne _ _ (by omega)]; exact hL.b k hk'
  · have hk' : k < s.nb := hk
    exact upd_at3 _ (hL.r k hk')
  · have hk' : k < s.nb := hk
    rw [upd_ne _ _ (by omega)]; exact hL.d k hk'
theorem clear_ok {s : Pst} (hO : s.Ok) {b : Nat} (hb : b < s.nb) : (s.clear b).Ok ∧ ∀ y, y < s.n → (s.clear b).isM y = (s.isM y && decide (s.O y ≠ b)) := by
  refine ⟨⟨hO.n1, hO.pe, hO.ep, hO.o, fun b' hb' => ?_, hO.ow, hO.su⟩, fun y hy => ?_⟩
  · show s.B b' ≤ upd s.R b (s.B b) b' ∧ upd s.R b (s.B b) b' ≤ s.D b' ∧ s.B b' < s.D b' ∧ s.D b' ≤ s.n
    have h := hO.iv b' hb'
    by_cases e : b' = b
    · subst e; rw [upd_same]; omega
    · rw [upd_ne _ _ e]; exact h
  · show decide (s.P y < upd s.R b (s.B b) (s.O y)) = (decide (s.P y < s.R (s.O y)) && decide (s.O y ≠ b))
    have h := hO.o y hy
    by_cases e : s.O y = b
    · rw [e] at h ⊢
      rw [upd_same]
      simp
      omega
    · rw [upd_ne _ _ e]; simp [e]
def Pst.cut (s : Pst) (b sB sD fB fD j : Nat) : Pst := { s with nb := s.nb + 1, B := upd (upd s.B b sB) s.nb fB, R := upd (upd s.R b sB) s.nb fB, D := upd (upd s.D b sD) s.nb fD, O := fun e => if fB ≤ s.P e ∧ s.P e < fB + j then s.nb else s.O e }
def cutC (c : Nat → Int) (b nb sB sD fB fD : Nat) : Nat → Int := upd (upd (upd (upd (upd (upd (upd c 1 ((nb + 1 : Nat) : Int)) (3002 + b * 3) sB) (3002 + b * 3 + 1) sB) (3002 + b * 3 + 2) sD) (3002 + nb * 3) fB) (3002 + nb * 3 + 1) fB) (3002 + nb * 3 + 2) fD
theorem upd_here {f : Nat → Int} {h : Nat → Nat} {a i k : Nat} (x : Nat) (hk : k ≠ i → f (a + k * 3) = h k) : upd f (a + i * 3) x (a + k * 3) = (upd h i x k : Nat) := by
  unfold upd
  by_cases e : k = i
  · subst e; simp
  · rw [if_neg (by omega), if_neg e]; exact hk e
theorem upd_here3 {f : Nat → Int} {h : Nat → Nat} {a d i k : Nat} (x : Nat) (hk : k ≠ i → f (a + k * 3 + d) = h k) : upd f (a + i * 3 + d) x (a + k * 3 + d) = (upd h i x k : Nat) := by
  unfold upd
  by_cases e : k = i
  · subst e; simp
  · rw [if_neg (by omega), if_neg e]; exact hk e
theorem cut_lay {c : Nat → Int} {s : Pst} (hL : Lay c s) (hn : s.n ≤ 1000) {b sB sD fB fD : Nat} : Lay (cutC c b s.nb sB sD fB fD) (s.cut b sB sD fB fD 0) := by
  refine ⟨?_, ?_, fun k hk => ?_, fun k hk => ?_, fun k hk => ?_, fun k hk => ?_, fun k hk => ?_, fun k hk => ?_⟩
  · unfold cutC
    rw [upd_ne _ _ (by omega), upd_ne _ _ (by omega), upd_ne _ _ (by omega), upd_ne _ _ (by omega), upd_ne _ _ (by omega), upd_ne _ _ (by omega), upd_ne _ _ (by omega)]
    exact hL.n
  · unfold cutC
    rw [upd_ne _ _ (by omega), upd_ne _ _ (by omega), upd_ne _ _ (by omega), upd_ne _ _ (by omega), upd_ne _ _ (by omega), upd_ne _ _ (by omega), upd_same]
    rfl
  · have hk' : k < s.n := hk
    unfold cutC
    rw [upd_ne _ _ (by omega), upd_ne _ _ (by omega), upd_ne _ _ (by omega), upd_ne _ _ (by omega), upd_ne _ _ (by omega), upd_ne _ _ (by omega), upd_ne _ _ (by omega)]
    exact hL.e k hk'
  · have hk' : k < s.n := hk
    unfold cutC
    rw [upd_ne _ _ (by omega), upd_ne _ _ (by omega), upd_ne _ _ (by omega), upd_ne _ _ (by omega), upd_ne _ _ (by omega), upd_ne _ _ (by omega), upd_ne _ _ (by omega)]
    exact hL.p k hk'
  · have hk' : k < s.n := hk
    unfold cutC
    rw [upd_ne _ _ (by omega), upd_ne _ _ (by omega), upd_ne _ _ (by omega), upd_ne _ _ (by omega), upd_ne _ _ (by omega), upd_ne _ _ (by omega), upd_ne _ _ (by omega)]
    show c (2002 + k) = ((if fB ≤ s.P k ∧ s.P k < fB + 0 then s.nb else s.O k : Nat) : Int)
    rw [if_neg (by omega)]
    exact hL.o k hk'
  · have hk' : k < s.nb + 1 := hk
    unfold cutC
    rw [upd_ne _ _ (by omega), upd_ne _ _ (by omega)]
    refine upd_here fB fun e1 => ?_
    rw [upd_ne _ _ (by omega), upd_ne _ _ (by omega)]
    refine upd_here sB fun e2 => ?_
    rw [upd_ne _ _ (by omega)]
    exact hL.b k (by omega)
  · have hk' : k < s.nb + 1 := hk
    unfold cutC
    rw [upd_ne _ _ (by omega)]
    refine upd_here3 fB fun e1 => ?_
    rw [upd_ne _ _ (by omega), upd_ne _ _ (by omega)]
    refine upd_here3 sB fun e2 => ?_
    rw [upd_ne _ _ (by omega), upd_ne _ _ (by omega)]
    exact hL.r k (by omega)
  · have hk' : k < s.nb + 1 := hk
    unfold cutC
    refine upd_here3 fD fun e1 => ?_
    rw [upd_ne _ _ (by omega), upd_ne _ _ (by omega)]
    refine upd_here3 sD fun e2 => ?_
    rw [upd_ne _ _ (by omega), upd_ne _ _ (by omega), upd_ne _ _ (by omega)]
    exact hL.d k (by omega)
theorem cut_next {c : Nat → Int} {s : Pst} (hO : s.Ok) {b sB sD fB fD j : Nat} (hL : Lay c (s.cut b sB sD fB fD j)) (hj : fB + j < s.n) : Lay (upd c (2002 + s.E (fB + j)) s.nb) (s.cut b sB sD fB fD (j + 1)) := by
  obtain ⟨e1, e2⟩ := hO.ep (fB + j) hj
  have hn := hO.n1
  refine ⟨?_, ?_, fun k hk => ?_, fun k hk => ?_, fun k hk => ?_, fun k hk => ?_, fun k hk => ?_, fun k hk => ?_⟩
  · rw [upd_ne _ _ (by omega)]; exact hL.n
  · rw [upd_ne _ _ (by omega)]; exact hL.nb
  · have hk' : k < s.n := hk
    rw [upd_ne _ _ (by omega)]; exact hL.e k hk'
  · have hk' : k < s.n := hk
    rw [upd_ne _ _ (by omega)]; exact hL.p k hk'
  · have hk' : k < s.n := hk
    show _ = ((if fB ≤ s.P k ∧ s.P k < fB + (j + 1) then s.nb else s.O k : Nat) : Int)
    by_cases h : k = s.E (fB + j)
    · rw [h, upd_same, e2, if_pos (by omega)]
    · have h3 : s.P k ≠ fB + j := fun h4 => h (by rw [← h4, (hO.pe k hk').2])
      rw [upd_ne _ _ (by omega), hL.o k hk']
      show ((if fB ≤ s.P k ∧ s.P k < fB + j then s.nb else s.O k : Nat) : Int) = _
      by_cases h5 : fB ≤ s.P k ∧ s.P k < fB + j
      · rw [if_pos h5, if_pos (by omega)]
      · rw [if_neg h5, if_neg (by omega)]
  · rw [upd_ne _ _ (by omega)]; exact hL.b k hk
  · rw [upd_ne _ _ (by omega)]; exact hL.r k hk
  · rw [upd_ne _ _ (by omega)]; exact hL.d k hk
theorem cut_ok {s : Pst} (hO : s.Ok) {b sB sD fB fD : Nat} (hb : b < s.nb) (hm : s.B b < s.R b) (ho : s.R b < s.D b) (hx : (sB = s.B b ∧ sD = s.R b ∧ fB = s.R b ∧ fD = s.D b) ∨ (sB = s.R b ∧ sD = s.D b ∧ fB = s.B b ∧ fD = s.R b)) : (s.cut b sB sD fB fD (fD - fB)).Ok ∧ ∀ y, y < s.n → (s.cut b sB sD fB fD (fD - fB)).isM y = (s.isM y && decide (s.O y ≠ b)) := by
  have hne : b ≠ s.nb := by omega
  have v := hO.iv b hb
  have hf : fB + (fD - fB) = fD := by omega
  refine ⟨⟨hO.n1, hO.pe, hO.ep, fun e he => ?_, fun b' hb' => ?_, fun b' hb' k h1 h2 => ?_, ?_⟩, fun y hy => ?_⟩
  · show (if fB ≤ s.P e ∧ s.P e < fB + (fD - fB) then s.nb else s.O e) < s.nb + 1 ∧ upd (upd s.B b sB) s.nb fB (if fB ≤ s.P e ∧ s.P e < fB + (fD - fB) then s.nb else s.O e) ≤ s.P e ∧ s.P e < upd (upd s.D b sD) s.nb fD (if fB ≤ s.P e ∧ s.P e < fB + (fD - fB) then s.nb else s.O e)
    rw [hf]
    obtain ⟨o1, o2, o3⟩ := hO.o e he
    by_cases h : fB ≤ s.P e ∧ s.P e < fD
    · rw [if_pos h, upd_same, upd_same]; omega
    · have on : s.O e ≠ s.nb := by omega
      rw [if_neg h, upd_ne _ _ on, upd_ne _ _ on]
      by_cases e1 : s.O e = b
      · rw [e1] at o1 o2 o3 ⊢
        rw [upd_same, upd_same]; omega
      · rw [upd_ne _ _ e1, upd_ne _ _ e1]; omega
  · show upd (upd s.B b sB) s.nb fB b' ≤ upd (upd s.R b sB) s.nb fB b' ∧ upd (upd s.R b sB) s.nb fB b' ≤ upd (upd s.D b sD) s.nb fD b' ∧ upd (upd s.B b sB) s.nb fB b' < upd (upd s.D b sD) s.nb fD b' ∧ upd (upd s.D b sD) s.nb fD b' ≤ s.n
    have hb2 : b' < s.nb + 1 := hb'
    by_cases e1 : b' = s.nb
    · subst e1; rw [upd_same, upd_same, upd_same]; omega
    · rw [upd_ne _ _ e1, upd_ne _ _ e1, upd_ne _ _ e1]
      by_cases e2 : b' = b
      · subst e2; rw [upd_same, upd_same, upd_same]; omega
      · rw [upd_ne _ _ e2, upd_ne _ _ e2, upd_ne _ _ e2]; exact hO.iv b' (by omega)
  · replace h1 : upd (upd s.B b sB) s.nb fB b' ≤ k := h1
    replace h2 : k < upd (upd s.D b sD) s.nb fD b' := h2
    have hb2 : b' < s.nb + 1 := hb'
    show (if fB ≤ s.P (s.E k) ∧ s.P (s.E k) < fB + (fD - fB) then s.nb else s.O (s.E k)) = b'
    rw [hf]
    by_cases e1 : b' = s.nb
    · subst e1
      rw [upd_same] at h1 h2
      rw [(hO.ep k (by omega)).2, if_pos ⟨h1, h2⟩]
    · rw [upd_ne _ _ e1] at h1 h2
      by_cases e2 : b' = b
      · subst e2
        rw [upd_same] at h1 h2
        rw [(hO.ep k (by omega)).2, if_neg (by omega)]
        exact hO.ow b' hb k (by omega) (by omega)
      · rw [upd_ne _ _ e2] at h1 h2
        have v2 := hO.iv b' (by omega)
        have h3 := hO.ow b' (by omega) k h1 h2
        have h4 : ¬ (s.B b ≤ k ∧ k < s.D b) := fun h => e2 (by rw [← h3, hO.ow b hb k h.1 h.2])
        rw [(hO.ep k (by omega)).2, if_neg (by omega)]
        exact h3
  · show tot (fun b' => upd (upd s.D b sD) s.nb fD b' - upd (upd s.B b sB) s.nb fB b') (s.nb + 1) = s.n
    simp only [tot, upd_same]
    rw [tot_congr (g := upd (fun b' => s.D b' - s.B b') b (sD - sB)) s.nb fun j hj => by
      have jn : j ≠ s.nb := by omega
      rw [upd_ne _ _ jn, upd_ne _ _ jn]
      by_cases e : j = b
      · subst e; rw [upd_same, upd_same, upd_same]
      · rw [upd_ne _ _ e, upd_ne _ _ e, upd_ne _ _ e]]
    have h1 := tot_upd (fun b' => s.D b' - s.B b') b (sD - sB) s.nb hb
    have h2 := hO.su
    omega
  · show decide (s.P y < upd (upd s.R b sB) s.nb fB (if fB ≤ s.P y ∧ s.P y < fB + (fD - fB) then s.nb else s.O y)) = (decide (s.P y < s.R (s.O y)) && decide (s.O y ≠ b))
    rw [hf]
    obtain ⟨o1, o2, o3⟩ := hO.o y hy
    by_cases h : fB ≤ s.P y ∧ s.P y < fD
    · have e1 : s.O y = b := by
        have h3 := hO.ow b hb (s.P y) (by omega) (by omega)
        rw [(hO.pe y hy).2] at h3
        exact h3
      rw [if_pos h, upd_same]
      simp [e1]
      omega
    · rw [if_neg h, upd_ne _ _ (by omega)]
      by_cases e1 : s.O y = b
      · rw [e1] at o2 o3 ⊢
        rw [upd_same]
        simp
        omega
      · rw [upd_ne _ _ e1]; simp [e1]
end Go.Proofs.YtkiapldehlnndabGreatDoor
/- refine: marks, others, part. -/
namespace Go.Proofs.YtkiapldehlnndabGreatDoor
open Go.RowKit Go.Maps
attribute [local go_sem ↓] Go.wp_at_zero Go.wp_at_succ
theorem marks_any (x y z : Nat) (hx : x ≤ y) (hy : y ≤ 1000) (w : World) : Calls Tryz.prog 84 #[.agg #[.int .i64 x, .int .i64 y, .int .i64 z]] w fun r w' => r = .returned (.int .i64 ((y - x : Nat) : Int)) ∧ Below w.heap.size w w' := by
  have p1 : IntKind.i64.wrap ((y : Int) - (x : Int)) = ((y - x : Nat) : Int) := by rw [IntKind.wrap_i64]; omega
  go_enter Tryz.func84, Tryz.ntmps84
  go_wp2_with fail
  go_ret
  exact ⟨by first | rfl | (congr 2; omega), (Below.refl _ _).alloc (Nat.le_refl _) _⟩
theorem others_any (x y z : Nat) (hx : y ≤ z) (hy : z ≤ 1000) (w : World) : Calls Tryz.prog 85 #[.agg #[.int .i64 x, .int .i64 y, .int .i64 z]] w fun r w' => r = .returned (.int .i64 ((z - y : Nat) : Int)) ∧ Below w.heap.size w w' := by
  have p1 : IntKind.i64.wrap ((z : Int) - (y : Int)) = ((z - y : Nat) : Int) := by rw [IntKind.wrap_i64]; omega
  go_enter Tryz.func85, Tryz.ntmps85
  go_wp2_with fail
  go_ret
  exact ⟨by first | rfl | (congr 2; omega), (Below.refl _ _).alloc (Nat.le_refl _) _⟩
set_option maxHeartbeats 1000000 in
theorem part_any (g b e : Nat) (hb : b < e) (he : e ≤ 1000) (w : World) : Calls Tryz.prog 74 #[.pointer (some ⟨g, 0, none⟩), .int .i64 b, .int .i64 e] w fun r w' => r = .returned (.slice (some ⟨g, 2 + b, none⟩) (e - b) (e - b)) ∧ w' = w := by
  have b0 : (0 : Int) ≤ (b : Int) := by omega
  have b1 : (b : Int) ≤ (e : Int) := by omega
  have b2 : (e : Int) ≤ 1000 := by omega
  have b3 : ¬ e - b = 0 := by omega
  have b4 : ¬ e = b := by omega
  have b5 : (0 : Int) ≤ (e : Int) := by omega
  go_enter Tryz.func74, Tryz.ntmps74
  go_wp2_with fail
  go_ret
  exact ⟨by first | rfl | simp, rfl⟩
end Go.Proofs.YtkiapldehlnndabGreatDoor
/- refine: Split. -/
namespace Go.Proofs.YtkiapldehlnndabGreatDoor
open Go.RowKit Go.Maps
attribute [local go_sem ↓] Go.wp_at_zero Go.wp_at_succ
theorem cellu {w w' : World} {a : Addr} {x : Value} (h : w.cell? a = some x) (hb : Below w.heap.size w w') : w'.cell? a = some x := (hb.cell (World.block_lt_of_cell? w _ h)).trans h
set_option maxRecDepth 100000 in
set_option maxHeartbeats 4000000 in
theorem split_none (g : Nat) (c : Nat → Int) (s : Pst) (b : Nat) (w0 w : World) (hP : Pt w0 w g c) (hL : Lay c s) (hO : s.Ok) (hb : b < s.nb) (hm : s.R b = s.B b ∨ s.D b = s.R b) :
    Calls Tryz.prog 67 #[.pointer (some ⟨g, 0, none⟩), .int .i64 b] w fun r w' => r = .returned (.tuple #[.int .i64 0, .bool false, .nilIface]) ∧ Pt w0 w' g (upd c (3002 + b * 3 + 1) (s.B b)) ∧ Kept (fun i => i = g) w w' := by
  obtain ⟨v1, v2, v3, v4⟩ := hO.iv b hb
  have hn := hO.n1
  have hf := hO.few
  have hS := blocks_any g c w0 w hP
  rw [hL.nb] at hS
  have hl := lacks_ok g b s.nb w (by omega) (by omega)
  have c0 := hP.cell (i := 3002 + b * 3) (by omega)
  rw [hL.b b hb] at c0
  have c1 := hP.cell (i := 3002 + b * 3 + 1) (by omega)
  rw [hL.r b hb] at c1
  have c2 := hP.cell (i := 3002 + b * 3 + 2) (by omega)
  rw [hL.d b hb] at c2
  have e0 : (0 : Int) ≤ (b : Int) := by omega
  have e1 : (b : Int) < 1000 := by omega
  have hM := fun W => marks_any (s.B b) (s.R b) (s.D b) v1 (by omega) W
  have hT := fun W => others_any (s.B b) (s.R b) (s.D b) v2 (by omega) W
  have l0 : b < 1000 := by omega
  generalize s.B b = B at *
  generalize s.R b = R at *
  generalize s.D b = D at *
  generalize s.nb = nb at hS hl
  have hgl := Arr.lt hP
  have hb1 : Below w.heap.size w (w.alloc (.cells #[.int .i64 B, .int .i64 R, .int .i64 D] 100)) := (Below.refl _ _).alloc (Nat.le_refl _) _
  have hn1 : (w.alloc (.cells #[.int .i64 B, .int .i64 R, .int .i64 D] 100)).heap[w.heap.size]? = some (.cells #[.int .i64 B, .int .i64 R, .int .i64 D] 100 (0, 0)) := heap_alloc_new _ _
  have H : Hid _ := And.intro hS (And.intro hl (And.intro hM (And.intro hT (And.intro hP (And.intro hb1 hn1)))))
  clear hS hl hP hL hO hn hf hM hT hb1 hn1
  by_cases h1 : R = B
  · have m0 : ((R - B : Nat) : Int) = 0 := by omega
    have m1 : R - B = 0 := by omega
    have HB : Hid (R = B) := h1
    clear h1 hm v1 v2 v3 v4
    go_enter Tryz.func67, Tryz.ntmps67
    go_wp2_with (first
      | (go_at_call 46; refine Calls.mono H.out.1 ?_; rintro r w1 ⟨rfl, hw1⟩; obtain rfl := hw1.symm; clear hw1)
      | (go_at_call 61; refine Calls.mono H.out.2.1 ?_; rintro r w1 ⟨rfl, hw1⟩; obtain rfl := hw1.symm; clear hw1)
      | (go_at_call 84; refine Calls.mono (H.out.2.2.1 _) ?_; rintro r w2 ⟨rfl, hb2⟩))
    have hP2 := (H.out.2.2.2.2.1.below H.out.2.2.2.2.2.1).below hb2
    have y0 := cell0_of (k := 0) ((hb2.block _ (t_lt H.out.2.2.2.2.2.2)).trans H.out.2.2.2.2.2.2) rfl
    have y1 := hP2.cell (i := 3002 + b * 3 + 1) (by omega)
    have f1 := hP2.free (3002 + b * 3 + 1)
    have hgn : ¬ g = w.heap.size := by omega
    have hgn2 : ¬ w.heap.size = g := by omega
    have HZ : Hid _ := And.intro hP2 (Kept.of_below (F := fun i => i = g) (H.out.2.2.2.2.2.1.trans (hb2.mono H.out.2.2.2.2.2.1.size)))
    clear hP2 hb2
    go_region
    all_goals go_wp2_with fail
    all_goals
      refine bodyPost_ret (v := .tuple #[.int .i64 0, .bool false, .nilIface]) (by simp [results, Tryz.results67, go_sem]) rfl ?_
      exact ⟨rfl, (HZ.out.1.set _ _).below (Below.refl _ _).drew, (HZ.out.2.trans (Kept.setCell _ _ _ _)).trans (Kept.of_below (Below.refl _ _).drew)⟩
  · have m0 : ¬ ((R - B : Nat) : Int) = 0 := by omega
    have m1 : ¬ R - B = 0 := by omega
    have o0 : ((D - R : Nat) : Int) = 0 := by omega
    have o1 : D - R = 0 := by omega
    have m2 : decide (((R - B : Nat) : Int) = 0) = false := decide_eq_false m0
    clear h1 hm v1 v2 v3 v4
    go_enter Tryz.func67, Tryz.ntmps67
    go_wp2_with (first
      | (go_at_call 46; refine Calls.mono H.out.1 ?_; rintro r w1 ⟨rfl, hw1⟩; obtain rfl := hw1.symm; clear hw1)
      | (go_at_call 61; refine Calls.mono H.out.2.1 ?_; rintro r w1 ⟨rfl, hw1⟩; obtain rfl := hw1.symm; clear hw1)
      | (go_at_call 84; refine Calls.mono (H.out.2.2.1 _) ?_; rintro r w1 ⟨rfl, hb1⟩; have y0 := cellu (cell0_of (k := 0) H.out.2.2.2.2.2.2 rfl) hb1; have y1 := cellu (cell0_of (k := 1) H.out.2.2.2.2.2.2 rfl) hb1; have y2 := cellu (cell0_of (k := 2) H.out.2.2.2.2.2.2 rfl) hb1)
      | (go_at_call 85; refine Calls.mono (H.out.2.2.2.1 _) ?_; rintro r w2 ⟨rfl, hb2'⟩; have hb2 := hb1.trans (hb2'.mono hb1.size)))
    clear y0 y1 y2 hb2' hb1
    have hP2 := (H.out.2.2.2.2.1.below H.out.2.2.2.2.2.1).below hb2
    have y0 := cell0_of (k := 0) ((hb2.block _ (t_lt H.out.2.2.2.2.2.2)).trans H.out.2.2.2.2.2.2) rfl
    have y1 := hP2.cell (i := 3002 + b * 3 + 1) (by omega)
    have f1 := hP2.free (3002 + b * 3 + 1)
    have hgn : ¬ g = w.heap.size := by omega
    have hgn2 : ¬ w.heap.size = g := by omega
    have HZ : Hid _ := And.intro hP2 (Kept.of_below (F := fun i => i = g) (H.out.2.2.2.2.2.1.trans (hb2.mono H.out.2.2.2.2.2.1.size)))
    clear hP2 hb2
    go_region
    all_goals go_wp2_with fail
    all_goals
      refine bodyPost_ret (v := .tuple #[.int .i64 0, .bool false, .nilIface]) (by simp [results, Tryz.results67, go_sem]) rfl ?_
      exact ⟨rfl, (HZ.out.1.set _ _).below (Below.refl _ _).drew, (HZ.out.2.trans (Kept.setCell _ _ _ _)).trans (Kept.of_below (Below.refl _ _).drew)⟩
end Go.Proofs.YtkiapldehlnndabGreatDoor
/- refine: Split where there are marked and other elements. -/
namespace Go.Proofs.YtkiapldehlnndabGreatDoor
open Go.RowKit Go.Maps
attribute [local go_sem ↓] Go.wp_at_zero Go.wp_at_succ
structure SpM (w0 w wx : World) (g : Nat) (c : Nat → Int) (st fr sB sD fB fD : Nat) : Prop where
  pt : Pt w0 wx g c
  kp : Kept (fun i => i = g) w wx
  cs : wx.heap[st]? = some (.cells #[.int .i64 sB, .int .i64 sB, .int .i64 sD] 100 (0, 0))
  cf : wx.heap[fr]? = some (.cells #[.int .i64 fB, .int .i64 fB, .int .i64 fD] 100 (0, 0))
theorem SpM.below {w0 w wx wy : World} {g : Nat} {c : Nat → Int} {st fr sB sD fB fD : Nat} (h : SpM w0 w wx g c st fr sB sD fB fD) (hb : Below wx.heap.size wx wy) : SpM w0 w wy g c st fr sB sD fB fD :=
  ⟨h.pt.below hb, h.kp.trans (Kept.of_below hb), (hb.block _ (t_lt h.cs)).trans h.cs, (hb.block _ (t_lt h.cf)).trans h.cf⟩
theorem blk_set3 {w : World} {b : Nat} {x0 x1 x2 : Value} {t : TypeId} (h : w.heap[b]? = some (.cells #[x0, x1, x2] t (0, 0))) (y0 y1 y2 : Value) : (((w.setCell ⟨b, 0, none⟩ y0).setCell ⟨b, 1, none⟩ y1).setCell ⟨b, 2, none⟩ y2).heap[b]? = some (.cells #[y0, y1, y2] t (0, 0)) := by
  have h0 := heap_setCell_same w b 0 _ _ y0 h
  have h1 := heap_setCell_same _ b 1 _ _ y1 h0
  exact heap_setCell_same _ b 2 _ _ y2 h1
theorem kept_set3 (w : World) (b : Nat) (y0 y1 y2 : Value) : Kept (fun i => i = b) w (((w.setCell ⟨b, 0, none⟩ y0).setCell ⟨b, 1, none⟩ y1).setCell ⟨b, 2, none⟩ y2) := ((Kept.setCell _ _ _ _).trans (Kept.setCell _ _ _ _)).trans (Kept.setCell _ _ _ _)
theorem SpM.swap {w0 w wx : World} {g : Nat} {c : Nat → Int} {st sB sD fB fD : Nat} (h : SpM w0 w wx g c st (st + 1) sB sD fB fD) (hw : w.heap.size < st) (hg : g < w.heap.size) (h0 : w0.heap.size ≤ w.heap.size) : SpM w0 w ((((((wx.setCell ⟨st, 0, none⟩ (.int .i64 fB)).setCell ⟨st, 1, none⟩ (.int .i64 fB)).setCell ⟨st, 2, none⟩ (.int .i64 fD)).setCell ⟨st + 1, 0, none⟩ (.int .i64 sB)).setCell ⟨st + 1, 1, none⟩ (.int .i64 sB)).setCell ⟨st + 1, 2, none⟩ (.int .i64 sD)) g c st (st + 1) fB fD sB sD := by
  have k1 := kept_set3 wx st (.int .i64 fB) (.int .i64 fB) (.int .i64 fD)
  have b1 := blk_set3 h.cs (.int .i64 fB) (.int .i64 fB) (.int .i64 fD)
  have b2 := (k1.block _ (t_lt h.cf) (by omega)).trans h.cf
  generalize ((wx.setCell ⟨st, 0, none⟩ (.int .i64 fB)).setCell ⟨st, 1, none⟩ (.int .i64 fB)).setCell ⟨st, 2, none⟩ (.int .i64 fD) = w1 at k1 b1 b2 ⊢
  have k2 := kept_set3 w1 (st + 1) (.int .i64 sB) (.int .i64 sB) (.int .i64 sD)
  have b3 := blk_set3 b2 (.int .i64 sB) (.int .i64 sB) (.int .i64 sD)
  have b4 := (k2.block _ (t_lt b1) (by omega)).trans b1
  refine ⟨(h.pt.kept k1 fun b hb => ⟨by omega, by omega⟩).kept k2 fun b hb => ⟨by omega, by omega⟩, (h.kp.trans2 k1 fun i hi => Or.inr (by omega)).trans2 k2 fun i hi => Or.inr (by omega), b4, b3⟩
theorem SpM.set {w0 w wx : World} {g : Nat} {c : Nat → Int} {st sB sD fB fD : Nat} (h : SpM w0 w wx g c st (st + 1) sB sD fB fD) (hg : g < st) (i : Nat) (x : Int) : SpM w0 w (wx.setCell ⟨g, i, none⟩ (.int .i64 x)) g (upd c i x) st (st + 1) sB sD fB fD :=
  have k := Kept.setCell wx g i (.int .i64 x)
  ⟨h.pt.set i x, h.kp.trans k, (k.block _ (t_lt h.cs) (by omega)).trans h.cs, (k.block _ (t_lt h.cf) (by omega)).trans h.cf⟩
theorem rgb3 {w wr : World} {P : Prop} (h : P ∧ Hid (Below w.heap.size w wr)) : Below w.heap.size w wr := h.2.out
theorem rg_up3 {w2 wa wb : World} {a0 a1 a2 : Addr} {x0 x1 x2 : Value} (hb : Below wa.heap.size wa wb) (h : (wa.cell? a0 = some x0 ∧ wa.cell? a1 = some x1 ∧ wa.cell? a2 = some x2) ∧ Hid (Below w2.heap.size w2 wa)) : (wb.cell? a0 = some x0 ∧ wb.cell? a1 = some x1 ∧ wb.cell? a2 = some x2) ∧ Hid (Below w2.heap.size w2 wb) :=
  ⟨⟨cellu h.1.1 hb, cellu h.1.2.1 hb, cellu h.1.2.2 hb⟩, (h.2.out.trans (hb.mono h.2.out.size) : Below w2.heap.size w2 wb)⟩
set_option maxRecDepth 100000 in
set_option maxHeartbeats 8000000 in
theorem split_some (g : Nat) (c : Nat → Int) (s : Pst) (b : Nat) (w0 w : World) (hP : Pt w0 w g c) (hL : Lay c s) (hO : s.Ok) (hb : b < s.nb) (hm : s.B b < s.R b) (ho : s.R b < s.D b) (sB sD fB fD : Nat)
    (hx : (s.D b - s.R b < s.R b - s.B b ∧ sB = s.B b ∧ sD = s.R b ∧ fB = s.R b ∧ fD = s.D b) ∨ (¬ s.D b - s.R b < s.R b - s.B b ∧ sB = s.R b ∧ sD = s.D b ∧ fB = s.B b ∧ fD = s.R b)) :
    Calls Tryz.prog 67 #[.pointer (some ⟨g, 0, none⟩), .int .i64 b] w fun r w' => r = .returned (.tuple #[.int .i64 s.nb, .bool true, .nilIface]) ∧ ∃ c', Pt w0 w' g c' ∧ Lay c' (s.cut b sB sD fB fD (fD - fB)) ∧ Kept (fun i => i = g) w w' := by
  obtain ⟨v1, v2, v3, v4⟩ := hO.iv b hb
  have hn := hO.n1
  have hf := hO.few2 hb (by omega)
  have hS := blocks_any g c w0 w hP
  rw [hL.nb] at hS
  have hl := lacks_ok g b s.nb w (by omega) (by omega)
  have c0 := hP.cell (i := 3002 + b * 3) (by omega)
  rw [hL.b b hb] at c0
  have c1 := hP.cell (i := 3002 + b * 3 + 1) (by omega)
  rw [hL.r b hb] at c1
  have c2 := hP.cell (i := 3002 + b * 3 + 2) (by omega)
  rw [hL.d b hb] at c2
  have e0 : (0 : Int) ≤ (b : Int) := by omega
  have e1 : (b : Int) < 1000 := by omega
  have hM := fun W => marks_any (s.B b) (s.R b) (s.D b) v1 (by omega) W
  have hT := fun W => others_any (s.B b) (s.R b) (s.D b) v2 (by omega) W
  have l0 : b < 1000 := by omega
  have HL : Hid (Lay c s ∧ s.Ok ∧ s.n ≤ 1000 ∧ s.nb + 1 ≤ s.n) := ⟨hL, hO, hn, hf⟩
  have l1 : s.nb < 1000 := by omega
  have l2 : b < s.nb := hb
  have hfD : fB < fD ∧ fD ≤ s.n := by omega
  obtain ⟨B, hB⟩ : ∃ B, B = s.B b := ⟨_, rfl⟩
  obtain ⟨R, hR⟩ : ∃ R, R = s.R b := ⟨_, rfl⟩
  obtain ⟨D, hD⟩ : ∃ D, D = s.D b := ⟨_, rfl⟩
  rw [← hB] at c0 hM hT v1 v3 hm hx
  rw [← hR] at c1 hM hT v1 v2 hm ho hx
  rw [← hD] at c2 hM hT v2 v3 v4 ho hx
  obtain ⟨nb, hnb⟩ : ∃ nb, nb = s.nb := ⟨_, rfl⟩
  rw [← hnb] at hS hl l1 l2 ⊢
  have HN : Hid (nb = s.nb) := hnb
  clear hB hR hD hnb
  have hgl := Arr.lt hP
  have hb1 : Below w.heap.size w (w.alloc (.cells #[.int .i64 B, .int .i64 R, .int .i64 D] 100)) := (Below.refl _ _).alloc (Nat.le_refl _) _
  have hn1 : (w.alloc (.cells #[.int .i64 B, .int .i64 R, .int .i64 D] 100)).heap[w.heap.size]? = some (.cells #[.int .i64 B, .int .i64 R, .int .i64 D] 100 (0, 0)) := heap_alloc_new _ _
  have H : Hid _ := And.intro hS (And.intro hl (And.intro hM (And.intro hT (And.intro hP (And.intro hb1 hn1)))))
  have m0 : ¬ ((R - B : Nat) : Int) = 0 := by omega
  have m1 : ¬ R - B = 0 := by omega
  have o0 : ¬ ((D - R : Nat) : Int) = 0 := by omega
  have o1 : ¬ D - R = 0 := by omega
  have m2 : decide (((R - B : Nat) : Int) = 0) = false := decide_eq_false m0
  have o2 : decide (((D - R : Nat) : Int) = 0) = false := decide_eq_false o0
  have m3 : (((R - B : Nat) : Int) == 0) = false := by simpa using m0
  have o3 : (((D - R : Nat) : Int) == 0) = false := by simpa using o0
  have HX : Hid ((D - R < R - B ∧ sB = B ∧ sD = R ∧ fB = R ∧ fD = D) ∨ (¬ D - R < R - B ∧ sB = R ∧ sD = D ∧ fB = B ∧ fD = R)) := hx
  have HF : Hid (fB < fD ∧ fD ≤ s.n) := hfD
  clear hS hl hP hL hO hn hf hM hT hb1 hn1 hb hm ho v1 v2 v3 v4 hx hfD
  go_enter Tryz.func67, Tryz.ntmps67
  go_upto_region 10 with (first
    | (go_at_call 46; refine Calls.mono H.out.1 ?_; rintro r w1 ⟨rfl, hw1⟩; obtain rfl := hw1.symm; clear hw1)
    | (go_at_call 61; refine Calls.mono H.out.2.1 ?_; rintro r w1 ⟨rfl, hw1⟩; obtain rfl := hw1.symm; clear hw1)
    | (go_at_call 84; refine Calls.mono (H.out.2.2.1 _) ?_; rintro r w1 ⟨rfl, hb1⟩; have y0 := cellu (cell0_of (k := 0) H.out.2.2.2.2.2.2 rfl) hb1; have y1 := cellu (cell0_of (k := 1) H.out.2.2.2.2.2.2 rfl) hb1; have y2 := cellu (cell0_of (k := 2) H.out.2.2.2.2.2.2 rfl) hb1)
    | (go_at_call 85; refine Calls.mono (H.out.2.2.2.1 _) ?_; rintro r w2 ⟨rfl, hb2'⟩; have hb2 := hb1.trans (hb2'.mono hb1.size); clear y0 y1 y2 hb2' hb1; have hbl := (hb2.block _ (t_lt H.out.2.2.2.2.2.2)).trans H.out.2.2.2.2.2.2; have y0 := cell0_of (k := 0) hbl rfl; have y1 := cell0_of (k := 1) hbl rfl; have y2 := cell0_of (k := 2) hbl rfl; have HW : Hid (Pt w0 w2 g c ∧ Below w.heap.size w w2 ∧ w2.heap[w.heap.size]? = some (.cells #[.int .i64 B, .int .i64 R, .int .i64 D] 100 (0, 0))) := ⟨(H.out.2.2.2.2.1.below H.out.2.2.2.2.2.1).below hb2, H.out.2.2.2.2.2.1.trans (hb2.mono H.out.2.2.2.2.2.1.size), hbl⟩; have hbA : Below w2.heap.size w2 (w2.alloc (.cells #[.int .i64 R, .int .i64 R, .int .i64 D] 100)) := (Below.refl _ _).alloc (Nat.le_refl _) _; have z0 := cellu y0 hbA; have z1 := cellu y1 hbA; clear hbA hb2 hbl c0 c1 c2))
  obtain ⟨w4, hw4⟩ : ∃ w4, w4 = (w2.alloc (.cells #[.int .i64 R, .int .i64 R, .int .i64 D] 100)).alloc (.cells #[.int .i64 B, .int .i64 B, .int .i64 R] 100) := ⟨_, rfl⟩
  rw [← hw4]
  have hbA : Below w2.heap.size w2 (w2.alloc (.cells #[.int .i64 R, .int .i64 R, .int .i64 D] 100)) := (Below.refl _ _).alloc (Nat.le_refl _) _
  have hbB : Below w2.heap.size w2 w4 := by rw [hw4]; exact hbA.alloc hbA.size _
  have hs4 : w4.heap[w2.heap.size]? = some (.cells #[.int .i64 R, .int .i64 R, .int .i64 D] 100 (0, 0)) := by
    rw [hw4]
    exact ((MapKept.heap_alloc _ _).2 _ (by simp)).trans (MapKept.heap_alloc w2 _).1
  have hf4 : w4.heap[w2.heap.size + 1]? = some (.cells #[.int .i64 B, .int .i64 B, .int .i64 R] 100 (0, 0)) := by rw [hw4]; exact two_alloc w2 _ _
  have hsz : w.heap.size < w2.heap.size := t_lt HW.out.2.2
  have u0 := cellu y0 hbB
  have u1 := cellu y1 hbB
  have u2 := cellu y2 hbB
  have HS : Hid (Pt w0 w4 g c ∧ Below w.heap.size w w4 ∧ w4.heap[w2.heap.size]? = some (.cells #[.int .i64 R, .int .i64 R, .int .i64 D] 100 (0, 0)) ∧ w4.heap[w2.heap.size + 1]? = some (.cells #[.int .i64 B, .int .i64 B, .int .i64 R] 100 (0, 0))) := ⟨HW.out.1.below hbB, HW.out.2.1.trans (hbB.mono HW.out.2.1.size), hs4, hf4⟩
  clear hw4 hbA hbB hs4 hf4 y0 y1 y2 z0 z1
  go_region_held3 (fun w' => (w'.cell? ⟨w.heap.size, 0, none⟩ = some (.int .i64 B) ∧ w'.cell? ⟨w.heap.size, 1, none⟩ = some (.int .i64 R) ∧ w'.cell? ⟨w.heap.size, 2, none⟩ = some (.int .i64 D)) ∧ Hid (Below w4.heap.size w4 w')) (first | exact rg_up3 hb5 (by assumption) | exact ⟨⟨u0, u1, u2⟩, ((Below.refl _ _).drew : Below w4.heap.size w4 w4.drew)⟩ | go_keep)
    ((first
      | (go_at_call 84; refine Calls.mono (H.out.2.2.1 _) ?_; rintro r w5 ⟨rfl, hb5⟩)
      | (go_at_call 85; refine Calls.mono (H.out.2.2.2.1 _) ?_; rintro r w5 ⟨rfl, hb5⟩)
      | fail))
  have hb45 : Below w4.heap.size w4 w5 := rgb3 (by assumption)
  rename_i hS3
  clear hS3 hb5 u0 u1 u2
  obtain ⟨st, hst⟩ : ∃ st, st = w2.heap.size := ⟨_, rfl⟩
  have hs5 := (hb45.block _ (t_lt HS.out.2.2.1)).trans HS.out.2.2.1
  have hf5 := (hb45.block _ (t_lt HS.out.2.2.2)).trans HS.out.2.2.2
  rw [← hst] at hs5 hf5 hsz ⊢
  have HS5 : Hid (Pt w0 w5 g c ∧ Below w.heap.size w w5 ∧ w5.heap[st]? = some (.cells #[.int .i64 R, .int .i64 R, .int .i64 D] 100 (0, 0)) ∧ w5.heap[st + 1]? = some (.cells #[.int .i64 B, .int .i64 B, .int .i64 R] 100 (0, 0))) := ⟨HS.out.1.below hb45, HS.out.2.1.trans (hb45.mono HS.out.2.1.size), hs5, hf5⟩
  have x0 := cell0_of (k := 0) hs5 rfl
  have x1 := cell0_of (k := 1) hs5 rfl
  have x2 := cell0_of (k := 2) hs5 rfl
  have x3 := cell0_of (k := 0) hf5 rfl
  have x4 := cell0_of (k := 1) hf5 rfl
  have x5 := cell0_of (k := 2) hf5 rfl
  have g0 := blk_free hs5 0
  have g1 := blk_free hs5 1
  have g2 := blk_free hs5 2
  have g3 := blk_free hf5 0
  have g4 := blk_free hf5 1
  have g5 := blk_free hf5 2
  have hne1 : ¬ st = st + 1 := by omega
  have hne2 : ¬ st + 1 = st := by omega
  clear hst hs5 hf5 hb45 HS HW
  go_upto_if 62 with fail
  go_cut [] (fun wx => SpM w0 w wx g c st (st + 1) sB sD fB fD)
  case first =>
    by_cases hlt : D - R < R - B
    · have hlt2 : ((D - R : Nat) : Int) < ((R - B : Nat) : Int) := by omega
      go_wp2_with fail
      go_meet
      case rel =>
        rcases HX.out with ⟨_, h1, h2, h3, h4⟩ | ⟨h, _⟩
        · have h5 : SpM w0 w w5 g c st (st + 1) R D B R := ⟨HS5.out.1, Kept.of_below HS5.out.2.1, HS5.out.2.2.1, HS5.out.2.2.2⟩
          rw [h1, h2, h3, h4]
          exact h5.swap hsz hgl H.out.2.2.2.2.1.bl.size
        · exact absurd hlt h
    · have hlt2 : ¬ ((D - R : Nat) : Int) < ((R - B : Nat) : Int) := by omega
      go_wp2_with fail
      go_meet
      case rel =>
        rcases HX.out with ⟨h, _⟩ | ⟨_, h1, h2, h3, h4⟩
        · exact absurd h hlt
        · rw [h1, h2, h3, h4]
          exact ⟨HS5.out.1, Kept.of_below HS5.out.2.1, HS5.out.2.2.1, HS5.out.2.2.2⟩
  case rest =>
    have hnx : ¬ g = st := by omega
    have hnx2 : ¬ st = g := by omega
    have hny : ¬ g = st + 1 := by omega
    have hny2 : ¬ st + 1 = g := by omega
    have HC : Hid (SpM w0 w wc g c st (st + 1) sB sD fB fD) := hcut
    clear x0 x1 x2 x3 x4 x5 g0 g1 g2 g3 g4 g5 HS5 hne1 hne2 H
    have g0 := hcut.pt.cell (i := 1) (by omega)
    rw [HL.out.1.nb, ← HN.out] at g0
    have f0 := hcut.pt.free 1
    have e2 : (0 : Int) ≤ (nb : Int) := by omega
    have e3 : (nb : Int) < 1000 := by omega
    have e4 : IntKind.i64.wrap ((nb : Int) + 1) = (nb : Int) + 1 := by rw [IntKind.wrap_i64]; omega
    have j1 : ¬ 3002 + b * 3 = 3002 + nb * 3 := by omega
    have j2 : ¬ b * 3 = nb * 3 := by omega
    have j3 : ¬ b = nb := by omega
    have j4 : ¬ nb = b := by omega
    clear hcut
    go_upto_region 14 with fail
    have hD := HC.out.set (by omega) 1 ((nb : Int) + 1)
    obtain ⟨wd, hwd⟩ : ∃ wd, wd = wc.setCell ⟨g, 1, none⟩ (.int .i64 ((nb : Int) + 1)) := ⟨_, rfl⟩
    rw [← hwd] at hD ⊢
    clear hwd HC g0 f0
    have HC : Hid (SpM w0 w wd g (upd c 1 ((nb : Int) + 1)) st (st + 1) sB sD fB fD) := hD
    have x0 := cell0_of (k := 0) hD.cs rfl
    have x1 := cell0_of (k := 1) hD.cs rfl
    have x2 := cell0_of (k := 2) hD.cs rfl
    have x3 := cell0_of (k := 0) hD.cf rfl
    have x4 := cell0_of (k := 1) hD.cf rfl
    have x5 := cell0_of (k := 2) hD.cf rfl
    have g1 := hD.pt.cell (i := 3002 + b * 3) (by omega)
    have g2 := hD.pt.cell (i := 3002 + b * 3 + 1) (by omega)
    have g3 := hD.pt.cell (i := 3002 + b * 3 + 2) (by omega)
    have g4 := hD.pt.cell (i := 3002 + nb * 3) (by omega)
    have g5 := hD.pt.cell (i := 3002 + nb * 3 + 1) (by omega)
    have g6 := hD.pt.cell (i := 3002 + nb * 3 + 2) (by omega)
    have f1 := hD.pt.free (3002 + b * 3)
    have f2 := hD.pt.free (3002 + b * 3 + 1)
    have f3 := hD.pt.free (3002 + b * 3 + 2)
    have f4 := hD.pt.free (3002 + nb * 3)
    have f5 := hD.pt.free (3002 + nb * 3 + 1)
    have f6 := hD.pt.free (3002 + nb * 3 + 2)
    clear hD
    go_region
    have hE := ((((((HC.out.set (by omega) (3002 + b * 3) sB).set (by omega) (3002 + b * 3 + 1) sB).set (by omega) (3002 + b * 3 + 2) sD).set (by omega) (3002 + nb * 3) fB).set (by omega) (3002 + nb * 3 + 1) fB).set (by omega) (3002 + nb * 3 + 2) fD).below (Below.refl _ _).drew
    obtain ⟨we, hwe⟩ : ∃ we, we = ((((((wd.setCell ⟨g, 3002 + b * 3, none⟩ (.int .i64 sB)).setCell ⟨g, 3002 + b * 3 + 1, none⟩ (.int .i64 sB)).setCell ⟨g, 3002 + b * 3 + 2, none⟩ (.int .i64 sD)).setCell ⟨g, 3002 + nb * 3, none⟩ (.int .i64 fB)).setCell ⟨g, 3002 + nb * 3 + 1, none⟩ (.int .i64 fB)).setCell ⟨g, 3002 + nb * 3 + 2, none⟩ (.int .i64 fD)).drew := ⟨_, rfl⟩
    rw [← hwe] at hE ⊢
    clear hwe HC x0 x1 x2 x3 x4 x5 g1 g2 g3 g4 g5 g6 f1 f2 f3 f4 f5 f6 j1 j2 j3 j4 e4
    have HE : Hid (SpM w0 w we g (cutC c b nb sB sD fB fD) st (st + 1) sB sD fB fD) := hE
    have x3 := cell0_of (k := 0) hE.cf rfl
    have x5 := cell0_of (k := 2) hE.cf rfl
    clear hE
    have hPa := part_any g fB fD HF.out.1 (by have := HF.out.2; have := HL.out.2.2.1; omega) we
    have HPa : Hid _ := And.intro hPa trivial
    clear hPa
    go_wp2_with (go_at_call 74; refine Calls.mono HPa.out.1 ?_; rintro r w6 ⟨rfl, hw6⟩; obtain rfl := hw6.symm; clear hw6)
    obtain ⟨K, hK⟩ : ∃ K, K = fD - fB := ⟨_, rfl⟩
    rw [← hK]
    have hKI : ((fD - fB : Nat) : Int) = (K : Int) := by rw [hK]
    have HK : Hid (K = fD - fB) := hK
    clear hK HPa x3 x5
    go_loopg [95] K (fun q kv wr => ∃ (j : Nat) (cj : Nat → Int), kv = .int .i64 j ∧ j ≤ K ∧ K - j ≤ q ∧ Pt w0 wr g cj ∧ Lay cj (s.cut b sB sD fB fD j) ∧ Kept (fun i => i = g) w wr)
    case atStart => exact ⟨0, _, rfl, Nat.zero_le _, Nat.le_refl _, HE.out.pt, by rw [HN.out]; exact cut_lay HL.out.1 HL.out.2.2.1, HE.out.kp⟩
    case round =>
      obtain ⟨j, cj, rfl, hj, hq, hPj, hLj, hKj⟩ := hrel
      by_cases hjK : j < K
      · have p1 : (j : Int) < (K : Int) := by omega
        have p2 : (0 : Int) ≤ (j : Int) := by omega
        have hfj : fB + j < s.n := by have := HF.out; have := HK.out; omega
        have hn := HL.out.2.2.1
        obtain ⟨q1, q2⟩ := HL.out.2.1.ep (fB + j) hfj
        have y1 := hPj.cell (i := 2 + (fB + j)) (by omega)
        rw [hLj.e (fB + j) hfj, ← Nat.add_assoc] at y1
        have y2 := hPj.cell (i := 2002 + s.E (fB + j)) (by omega)
        have y3 := hPj.free (2002 + s.E (fB + j))
        have HLn := cut_next HL.out.2.1 hLj hfj
        have hE' : (s.cut b sB sD fB fD j).E (fB + j) = s.E (fB + j) := rfl
        rw [hE'] at y1
        have p3 : (0 : Int) ≤ (s.E (fB + j) : Int) := by omega
        have p4 : (s.E (fB + j) : Int) < 1000 := by omega
        have p5 : j + 1 ≤ 1000 := by omega
        rw [← HN.out] at HLn
        generalize s.E (fB + j) = ee at y1 y2 y3 HLn p3 p4
        have HJ : Hid (Pt w0 wr g cj ∧ Lay (upd cj (2002 + ee) nb) (s.cut b sB sD fB fD (j + 1)) ∧ Kept (fun i => i = g) w wr) := ⟨hPj, HLn, hKj⟩
        clear hPj hLj hKj HLn hE' q1 q2 hn hfj
        go_wp2_with fail
        go_roundg (K - (j + 1))
        case measure => omega
        case rel => exact ⟨j + 1, _, by go_num, by omega, Nat.le_refl _, HJ.out.1.set _ _, HJ.out.2.1, HJ.out.2.2.trans (Kept.setCell _ _ _ _)⟩
      · have p1 : ¬ (j : Int) < (K : Int) := by omega
        have hjK' : j = K := by omega
        rw [hjK'] at hLj
        have HJ : Hid (Pt w0 wr g cj ∧ Lay cj (s.cut b sB sD fB fD K) ∧ Kept (fun i => i = g) w wr) := ⟨hPj, hLj, hKj⟩
        clear hPj hLj hKj
        go_wp2_with fail
        refine bodyPost_ret (v := .tuple #[.int .i64 nb, .bool true, .nilIface]) (by simp [results, Tryz.results67, go_sem]) rfl ?_
        exact ⟨rfl, cj, HJ.out.1, by rw [← HK.out]; exact HJ.out.2.1, HJ.out.2.2⟩
def Pst.splits (s : Pst) (b : Nat) : Prop := s.B b < s.R b ∧ s.R b < s.D b
instance (s : Pst) (b : Nat) : Decidable (s.splits b) := inferInstanceAs (Decidable (_ ∧ _))
def Pst.split (s : Pst) (b : Nat) : Pst :=
  if s.splits b then (if s.D b - s.R b < s.R b - s.B b then s.cut b (s.B b) (s.R b) (s.R b) (s.D b) (s.D b - s.R b) else s.cut b (s.R b) (s.D b) (s.B b) (s.R b) (s.R b - s.B b)) else s.clear b
theorem split_ok {s : Pst} (hO : s.Ok) {b : Nat} (hb : b < s.nb) : (s.split b).Ok ∧ (s.split b).n = s.n ∧ (s.split b).P = s.P ∧ (s.split b).E = s.E ∧ ∀ y, y < s.n → (s.split b).isM y = (s.isM y && decide (s.O y ≠ b)) := by
  unfold Pst.split
  by_cases h : s.splits b
  · rw [if_pos h]
    by_cases h2 : s.D b - s.R b < s.R b - s.B b
    · rw [if_pos h2]
      have h3 := cut_ok hO hb h.1 h.2 (.inl ⟨rfl, rfl, rfl, rfl⟩)
      exact ⟨h3.1, rfl, rfl, rfl, h3.2⟩
    · rw [if_neg h2]
      have h3 := cut_ok hO hb h.1 h.2 (.inr ⟨rfl, rfl, rfl, rfl⟩)
      exact ⟨h3.1, rfl, rfl, rfl, h3.2⟩
  · rw [if_neg h]
    have h3 := clear_ok hO hb
    exact ⟨h3.1, rfl, rfl, rfl, h3.2⟩
theorem split_any (g : Nat) (c : Nat → Int) (s : Pst) (b : Nat) (w0 w : World) (hP : Pt w0 w g c) (hL : Lay c s) (hO : s.Ok) (hb : b < s.nb) :
    Calls Tryz.prog 67 #[.pointer (some ⟨g, 0, none⟩), .int .i64 b] w fun r w' => r = .returned (.tuple #[.int .i64 (if s.splits b then s.nb else 0 : Nat), .bool (decide (s.splits b)), .nilIface]) ∧ ∃ c', Pt w0 w' g c' ∧ Lay c' (s.split b) ∧ Kept (fun i => i = g) w w' := by
  have v := hO.iv b hb
  have hn := hO.n1
  have hf := hO.few
  unfold Pst.split
  by_cases h : s.splits b
  · rw [if_pos h, if_pos h, decide_eq_true h]
    by_cases h2 : s.D b - s.R b < s.R b - s.B b
    · rw [if_pos h2]
      exact split_some g c s b w0 w hP hL hO hb h.1 h.2 _ _ _ _ (.inl ⟨h2, rfl, rfl, rfl, rfl⟩)
    · rw [if_neg h2]
      exact split_some g c s b w0 w hP hL hO hb h.1 h.2 _ _ _ _ (.inr ⟨h2, rfl, rfl, rfl, rfl⟩)
  · rw [if_neg h, if_neg h, decide_eq_false h]
    refine (split_none g c s b w0 w hP hL hO hb (by unfold Pst.splits at h; omega)).mono ?_
    rintro r w' ⟨rfl, h1, h2⟩
    exact ⟨rfl, _, h1, clear_lay hL hn (by omega), h2⟩
end Go.Proofs.YtkiapldehlnndabGreatDoor
/- Contracts of three functions of Go's library at this program, laid by the shelf's own tools in plain words. -/
namespace Go.Proofs
open Go.Shelf
def Tryz.lays128_ren : Go.Shelf.Ren := ⟨fun | 128 => 110 | n => n, fun | 51 => 184 | 3 => 3 | 4 => 4 | 46 => 160 | 5 => 5 | 9 => 9 | n => n, fun | n => n⟩
def Tryz.lays125_ren : Go.Shelf.Ren := ⟨fun | 125 => 90 | 128 => 110 | 129 => 111 | n => n, fun | 46 => 160 | 3 => 3 | 51 => 184 | 53 => 186 | 4 => 4 | 5 => 5 | 9 => 9 | n => n, fun | n => n⟩
theorem Tryz.lays125 : Go.Proofs.Lays.n125 Tryz.prog Tryz.lays125_ren := {
  mixed := by kernel_rfl
  f125 := Tryz.func90.trans (congrArg some (by kernel_rfl))
  f128 := Tryz.func110.trans (congrArg some (by kernel_rfl))
  f129 := Tryz.func111.trans (congrArg some (by kernel_rfl))
  t3 := Tryz.underlying3
  a3 := Tryz.isAgg3
  z3 := Tryz.sizeOf3
  v3 := Tryz.zeroValue3
  t4 := Tryz.underlying4
  a4 := Tryz.isAgg4
  z4 := Tryz.sizeOf4
  v4 := Tryz.zeroValue4
  t5 := Tryz.underlying5
  a5 := Tryz.isAgg5
  z5 := Tryz.sizeOf5
  v5 := Tryz.zeroValue5
  t9 := Tryz.underlying9
  a9 := Tryz.isAgg9
  z9 := Tryz.sizeOf9
  v9 := Tryz.zeroValue9
  t46 := Tryz.underlying160
  a46 := Tryz.isAgg160
  z46 := Tryz.sizeOf160
  v46 := Tryz.zeroValue160
  t51 := Tryz.underlying184
  a51 := Tryz.isAgg184
  z51 := Tryz.sizeOf184
  v51 := Tryz.zeroValue184
  t53 := Tryz.underlying186
  a53 := Tryz.isAgg186
  z53 := Tryz.sizeOf186
  v53 := Tryz.zeroValue186 }
theorem Tryz.bits_Len (x : Int) (w : World) (h0 : 0 ≤ x) (h1 : x ≤ 18446744073709551615) :
    Calls Tryz.prog 90 #[.int .u64 x] w fun e w' => e = .returned (.int .i64 (Lib.bitLen x.toNat)) ∧ w' = w := Any.bits_Len Tryz.lays125 x w h0 h1
def Tryz.lays215_ren : Go.Shelf.Ren := ⟨fun | 215 => 88 | n => n, fun | 3 => 3 | 4 => 4 | n => n, fun | n => n⟩
def Tryz.lays122_ren : Go.Shelf.Ren := ⟨fun | 122 => 72 | 215 => 88 | n => n, fun | 3 => 3 | 4 => 4 | n => n, fun | n => n⟩
def Tryz.lays129_ren : Go.Shelf.Ren := ⟨fun | 129 => 111 | n => n, fun | 53 => 186 | 3 => 3 | 4 => 4 | 46 => 160 | 5 => 5 | 9 => 9 | n => n, fun | n => n⟩
def Tryz.lays317_ren : Go.Shelf.Ren := ⟨fun | 317 => 139 | n => n, fun | 3 => 3 | 46 => 160 | n => n, fun | n => n⟩
def Tryz.lays318_ren : Go.Shelf.Ren := ⟨fun | 318 => 140 | n => n, fun | 3 => 3 | 4 => 4 | n => n, fun | n => n⟩
def Tryz.lays283_ren : Go.Shelf.Ren := ⟨fun | 283 => 133 | n => n, fun | 3 => 3 | 9 => 9 | 4 => 4 | n => n, fun | n => n⟩
def Tryz.laysM284_ren : Go.Shelf.Ren := ⟨fun | 284 => 134 | 129 => 111 | 317 => 139 | 318 => 140 | n => n, fun | 53 => 186 | 3 => 3 | 212 => 216 | 0 => 0 | 4 => 4 | 46 => 160 | 5 => 5 | 9 => 9 | n => n, fun | 17 => 20 | n => n⟩
def Tryz.lays285_ren : Go.Shelf.Ren := ⟨fun | 285 => 135 | n => n, fun | 37 => 156 | 53 => 186 | 3 => 3 | 4 => 4 | 51 => 184 | 9 => 9 | 5 => 5 | 0 => 0 | n => n, fun | n => n⟩
def Tryz.lays189_ren : Go.Shelf.Ren := ⟨fun | 189 => 75 | 125 => 90 | 257 => 89 | 128 => 110 | 129 => 111 | 294 => 101 | 295 => 102 | 296 => 103 | 297 => 104 | 298 => 105 | 299 => 106 | 216 => 107 | 300 => 108 | 301 => 109 | 328 => 125 | 329 => 126 | 330 => 127 | 331 => 128 | 332 => 129 | 215 => 88 | 343 => 137 | n => n, fun | 28 => 27 | 3 => 3 | 46 => 160 | 0 => 0 | 51 => 184 | 53 => 186 | 4 => 4 | 183 => 178 | 182 => 177 | 131 => 53 | 5 => 5 | 9 => 9 | 218 => 199 | 222 => 155 | 228 => 211 | 229 => 93 | n => n, fun | n => n⟩
theorem Tryz.lays189 : Go.Proofs.Lays.n189 Tryz.prog Tryz.lays189_ren := {
  mixed := by kernel_rfl
  f125 := Tryz.func90.trans (congrArg some (by kernel_rfl))
  f128 := Tryz.func110.trans (congrArg some (by kernel_rfl))
  f129 := Tryz.func111.trans (congrArg some (by kernel_rfl))
  f189 := Tryz.func75.trans (congrArg some (by kernel_rfl))
  f215 := Tryz.func88.trans (congrArg some (by kernel_rfl))
  f216 := Tryz.func107.trans (congrArg some (by kernel_rfl))
  f257 := Tryz.func89.trans (congrArg some (by kernel_rfl))
  f294 := Tryz.func101.trans (congrArg some (by kernel_rfl))
  f295 := Tryz.func102.trans (congrArg some (by kernel_rfl))
  f296 := Tryz.func103.trans (congrArg some (by kernel_rfl))
  f297 := Tryz.func104.trans (congrArg some (by kernel_rfl))
  f298 := Tryz.func105.trans (congrArg some (by kernel_rfl))
  f299 := Tryz.func106.trans (congrArg some (by kernel_rfl))
  f300 := Tryz.func108.trans (congrArg some (by kernel_rfl))
  f301 := Tryz.func109.trans (congrArg some (by kernel_rfl))
  f328 := Tryz.func125.trans (congrArg some (by kernel_rfl))
  f329 := Tryz.func126.trans (congrArg some (by kernel_rfl))
  f330 := Tryz.func127.trans (congrArg some (by kernel_rfl))
  f331 := Tryz.func128.trans (congrArg some (by kernel_rfl))
  f332 := Tryz.func129.trans (congrArg some (by kernel_rfl))
  f343 := Tryz.func137.trans (congrArg some (by kernel_rfl))
  t0 := Tryz.underlying0
  a0 := Tryz.isAgg0
  z0 := Tryz.sizeOf0
  v0 := Tryz.zeroValue0
  t3 := Tryz.underlying3
  a3 := Tryz.isAgg3
  z3 := Tryz.sizeOf3
  v3 := Tryz.zeroValue3
  t4 := Tryz.underlying4
  a4 := Tryz.isAgg4
  z4 := Tryz.sizeOf4
  v4 := Tryz.zeroValue4
  t5 := Tryz.underlying5
  a5 := Tryz.isAgg5
  z5 := Tryz.sizeOf5
  v5 := Tryz.zeroValue5
  t9 := Tryz.underlying9
  a9 := Tryz.isAgg9
  z9 := Tryz.sizeOf9
  v9 := Tryz.zeroValue9
  t28 := Tryz.underlying27
  a28 := Tryz.isAgg27
  z28 := Tryz.sizeOf27
  v28 := Tryz.zeroValue27
  t46 := Tryz.underlying160
  a46 := Tryz.isAgg160
  z46 := Tryz.sizeOf160
  v46 := Tryz.zeroValue160
  t51 := Tryz.underlying184
  a51 := Tryz.isAgg184
  z51 := Tryz.sizeOf184
  v51 := Tryz.zeroValue184
  t53 := Tryz.underlying186
  a53 := Tryz.isAgg186
  z53 := Tryz.sizeOf186
  v53 := Tryz.zeroValue186
  t131 := Tryz.underlying53
  a131 := Tryz.isAgg53
  z131 := Tryz.sizeOf53
  v131 := Tryz.zeroValue53
  t182 := Tryz.underlying177
  a182 := Tryz.isAgg177
  z182 := Tryz.sizeOf177
  v182 := Tryz.zeroValue177
  t183 := Tryz.underlying178
  a183 := Tryz.isAgg178
  z183 := Tryz.sizeOf178
  v183 := Tryz.zeroValue178
  t218 := Tryz.underlying199
  a218 := Tryz.isAgg199
  z218 := Tryz.sizeOf199
  v218 := Tryz.zeroValue199
  t222 := Tryz.underlying155
  a222 := Tryz.isAgg155
  z222 := Tryz.sizeOf155
  v222 := Tryz.zeroValue155
  t228 := Tryz.underlying211
  a228 := Tryz.isAgg211
  z228 := Tryz.sizeOf211
  v228 := Tryz.zeroValue211
  t229 := Tryz.underlying93
  a229 := Tryz.isAgg93
  z229 := Tryz.sizeOf93
  v229 := Tryz.zeroValue93 }
open Go.Sort Go.RowKit in
theorem Tryz.slices_Sort_int (blk off cap : Nat) (zs : List Int) (w : World) (hH : Holds (Value.int .i64) w blk off zs.toArray) (hblk : blk < w.heap.size) (hsz : zs.length < 4611686018427387904) :
    Calls Tryz.prog 75 #[.slice (some ⟨blk, off, none⟩) zs.length cap] w fun e w' =>
      e = .returned (.tuple #[]) ∧ ∃ n os, w' = grow (putRow (Value.int .i64) (Sort.ahead w n) blk off (zs.mergeSort fun x y => decide (x ≤ y)).toArray) os := Any.slices_Sort_int Tryz.lays189 blk off cap zs w hH hblk hsz
def Tryz.laysM288_ren : Go.Shelf.Ren := ⟨fun | 288 => 124 | 283 => 133 | 284 => 134 | 285 => 135 | 286 => 136 | 129 => 111 | 317 => 139 | 318 => 140 | 319 => 141 | 320 => 142 | 337 => 143 | 338 => 144 | n => n, fun | 37 => 156 | 53 => 186 | 3 => 3 | 4 => 4 | 9 => 9 | 171 => 207 | 0 => 0 | 173 => 209 | 212 => 216 | 51 => 184 | 5 => 5 | 20 => 20 | 213 => 217 | 46 => 160 | 232 => 218 | 233 => 219 | n => n, fun | 17 => 20 | 18 => 21 | 19 => 22 | n => n⟩
def Tryz.laysM249_ren : Go.Shelf.Ren := ⟨fun | 249 => 100 | 288 => 124 | 283 => 133 | 284 => 134 | 285 => 135 | 286 => 136 | 129 => 111 | 317 => 139 | 318 => 140 | 319 => 141 | 320 => 142 | 337 => 143 | 338 => 144 | n => n, fun | 37 => 156 | 2 => 2 | 3 => 3 | 53 => 186 | 4 => 4 | 9 => 9 | 171 => 207 | 0 => 0 | 173 => 209 | 212 => 216 | 51 => 184 | 5 => 5 | 20 => 20 | 213 => 217 | 46 => 160 | 232 => 218 | 233 => 219 | n => n, fun | 17 => 20 | 18 => 21 | 19 => 22 | n => n⟩
def Tryz.laysM176_ren : Go.Shelf.Ren := ⟨fun | 176 => 86 | 249 => 100 | 288 => 124 | 283 => 133 | 284 => 134 | 285 => 135 | 286 => 136 | 129 => 111 | 317 => 139 | 318 => 140 | 319 => 141 | 320 => 142 | 337 => 143 | 338 => 144 | n => n, fun | 37 => 156 | 2 => 2 | 3 => 3 | 53 => 186 | 4 => 4 | 9 => 9 | 171 => 207 | 0 => 0 | 173 => 209 | 212 => 216 | 51 => 184 | 5 => 5 | 20 => 20 | 213 => 217 | 46 => 160 | 232 => 218 | 233 => 219 | n => n, fun | 17 => 20 | 18 => 21 | 19 => 22 | n => n⟩
def Tryz.laysNm220_ren : Go.Shelf.Ren := ⟨fun | 20 => 87 | n => n, fun | 22 => 27 | 3 => 3 | 4 => 4 | 0 => 0 | n => n, fun | n => n⟩
end Go.Proofs
/- slices.Sort of a list of numbers that is the call's own. -/
namespace Go.Proofs.YtkiapldehlnndabGreatDoor
open Go.RowKit Go.Maps
theorem sortI_any (w : World) (B g cap : Nat) (zs : List Int) (h : OwnI w B (.slice (some ⟨g, 0, none⟩) zs.length cap) zs) (hn : zs.length ≤ 1000000) :
    Calls Tryz.prog 75 #[.slice (some ⟨g, 0, none⟩) zs.length cap] w fun e w' => e = .returned (.tuple #[]) ∧ OwnI w' B (.slice (some ⟨g, 0, none⟩) zs.length cap) (zs.mergeSort fun x y => decide (x ≤ y)) ∧ w.grownBy w' (some g) := by
  rcases h.2 with ⟨e, _⟩ | ⟨g', cap', cur, e, hg, hb, hc, hm, hs, ht⟩
  · cases e
  injection e with e1 e2 e3
  have e4 := Option.some.inj e1
  injection e4 with e5
  subst e5; subst e3
  rw [Nat.mul_one] at ht
  refine (Tryz.slices_Sort_int g 0 cap zs w (holds_of_blockI hb ht) (t_lt hb) (by omega)).mono ?_
  rintro r w' ⟨rfl, n, os, rfl⟩
  have hl : (zs.mergeSort fun x y => decide (x ≤ y)).length = zs.length := List.length_mergeSort _
  refine ⟨rfl, ?_, grownBy_sortedI _⟩
  have := ownsRow_sortedI (n := n) (os := os) hl hg hb hc hm hs
  unfold OwnI
  rw [hl]
  exact this
theorem sort_perm (zs : List Int) : (zs.mergeSort fun x y => decide (x ≤ y)).Perm zs := List.mergeSort_perm _ _
theorem sort_rise (zs : List Int) : (zs.mergeSort fun x y => decide (x ≤ y)).Pairwise (· ≤ ·) := by
  have h := List.pairwise_mergeSort (le := fun x y : Int => decide (x ≤ y)) (fun a b c h1 h2 => by simp at *; omega) (fun a b => by simp; omega) zs
  exact h.imp fun h => by simpa using h
end Go.Proofs.YtkiapldehlnndabGreatDoor
/- refine: a block's elements, rising. -/
namespace Go.Proofs.YtkiapldehlnndabGreatDoor
open Go.RowKit Go.Maps
attribute [local go_sem ↓] Go.wp_at_zero Go.wp_at_succ
def Pst.mem (s : Pst) (b : Nat) : List Int := ((List.range s.n).filter fun e => decide (s.O e = b)).map fun e : Nat => (e : Int)
def Pst.room (s : Pst) (b : Nat) : List Int := (List.range (s.D b - s.B b)).map fun j : Nat => (s.E (s.B b + j) : Int)
theorem room_len (s : Pst) (b : Nat) : (s.room b).length = s.D b - s.B b := by simp [Pst.room]
theorem room_at (s : Pst) (b : Nat) {j : Nat} (hj : j < s.D b - s.B b) : (s.room b)[j]? = some (s.E (s.B b + j) : Int) := by simp [Pst.room, hj]
theorem mem_mem {s : Pst} {b : Nat} {z : Int} : z ∈ s.mem b ↔ ∃ e : Nat, e < s.n ∧ s.O e = b ∧ z = e := by
  simp only [Pst.mem, List.mem_map, List.mem_filter, List.mem_range, decide_eq_true_eq]
  exact ⟨fun ⟨e, ⟨h1, h2⟩, h3⟩ => ⟨e, h1, h2, h3.symm⟩, fun ⟨e, h1, h2, h3⟩ => ⟨e, ⟨h1, h2⟩, h3.symm⟩⟩
theorem mem_rise (s : Pst) (b : Nat) : (s.mem b).Pairwise (· < ·) := by
  unfold Pst.mem
  rw [List.pairwise_map]
  exact (List.pairwise_lt_range.filter _).imp fun h => by omega
theorem room_perm {s : Pst} (hO : s.Ok) {b : Nat} (hb : b < s.nb) : (s.room b).Perm (s.mem b) := by
  have v := hO.iv b hb
  refine (List.perm_ext_iff_of_nodup ?_ ((mem_rise s b).imp fun h => by omega)).2 fun z => ?_
  · unfold Pst.room
    refine List.pairwise_map.2 (List.Pairwise.imp_of_mem (fun {x y} hx hy h => ?_) List.pairwise_lt_range)
    intro h2
    rw [List.mem_range] at hx hy
    have h3 : s.E (s.B b + x) = s.E (s.B b + y) := by omega
    have h4 := (hO.ep (s.B b + x) (by omega)).2
    have h5 := (hO.ep (s.B b + y) (by omega)).2
    rw [h3, h5] at h4
    omega
  · rw [mem_mem]
    unfold Pst.room
    simp only [List.mem_map, List.mem_range]
    constructor
    · rintro ⟨j, hj, rfl⟩
      exact ⟨s.E (s.B b + j), (hO.ep _ (by omega)).1, hO.ow b hb _ (by omega) (by omega), rfl⟩
    · rintro ⟨e, he, ho, rfl⟩
      obtain ⟨o1, o2, o3⟩ := hO.o e he
      rw [ho] at o2 o3
      exact ⟨s.P e - s.B b, by omega, by rw [show s.B b + (s.P e - s.B b) = s.P e by omega, (hO.pe e he).2]⟩
theorem room_sort {s : Pst} (hO : s.Ok) {b : Nat} (hb : b < s.nb) : ((s.room b).mergeSort fun x y => decide (x ≤ y)) = s.mem b :=
  List.Perm.eq_of_pairwise (le := fun a b => a ≤ b) (fun a b _ _ h1 h2 => by omega) (sort_rise _) ((mem_rise s b).imp fun h => by omega) ((sort_perm _).trans (room_perm hO hb))
theorem mem_len {s : Pst} (hO : s.Ok) {b : Nat} (hb : b < s.nb) : (s.mem b).length = s.D b - s.B b := by rw [← (room_perm hO hb).length_eq, room_len]
theorem Tryz.eqClI (w : World) (a : Option Addr) (n c n' c' : Nat) : (binOp .eql 27 (.slice a n c) (.slice none n' c')).run Tryz.prog w = .ok (.bool a.isNone) w := Lib.run_eql_slice_nil w _ _ a n c n' c' Tryz.underlying27
set_option maxRecDepth 100000 in
set_option maxHeartbeats 1000000 in
theorem cloneI_any (a : Addr) (cap : Nat) (zs : List Int) (w : World) (h0 : 0 < zs.length) (hn : zs.length ≤ 1000000) (hv : ∀ j u, (iC zs)[j]? = some u → w.cell? (a.add j) = some u) :
    Calls Tryz.prog 73 #[.slice (some a) zs.length cap] w fun r w' => ∃ g k, r = .returned (.slice (some ⟨g, 0, none⟩) zs.length k) ∧ OwnI w' w.heap.size (.slice (some ⟨g, 0, none⟩) zs.length k) zs ∧ Below w.heap.size w w' ∧ w.heap.size ≤ g := by
  obtain ⟨i0, hi0, hz0, hz1, hz2⟩ := info_parts Tryz.infoI4
  have hq := Tryz.eqClI
  have hl : (iC zs).length = zs.length := by simp [iC]
  obtain ⟨n, hN⟩ : ∃ n, n = zs.length := ⟨_, rfl⟩
  have A : Aside (∀ j u, (iC zs)[j]? = some u → w.cell? (a.add j) = some u) := hv
  have HN : Hid (n = zs.length ∧ 0 < zs.length) := ⟨hN, h0⟩
  rw [← hN] at hn hl ⊢
  clear hv hN h0
  go_enter Tryz.func73, Tryz.ntmps73
  go_wp2_with (at_builtin; refine wpList_append_own _ rfl _ _ 27 rfl w.heap.size 3 i0 (.int .i64 0) 1 8 Tryz.underlying27 hi0 hz0 hz1 hz2 rfl (by decide) _ _ _ rfl (World.ownsRow_made w #[] 0 (Nat.le_refl _) (Nat.zero_le _) (by simp)) a n cap (iC zs) rfl ?qc1 ?qc2 ?qc3 ?qc4 ?qc5 ?qc6 ?_)
  case qc1 => omega
  case qc2 =>
    intro j u hj
    have h1 := A.out j u hj
    exact (((Below.refl _ w).alloc (Nat.le_refl _) _).cell (World.block_lt_of_cell? w _ h1)).trans h1
  case qc3 => exact iC_one zs
  case qc4 => unfold maxLen; omega
  case qc5 => omega
  case qc6 => simp
  intro v' w1 hown hgrow hnil
  go_wp2
  go_ret
  have h1 : OwnI w1 w.heap.size v' zs := by
    have h1 := hown
    rw [HN.out.1] at h1
    unfold OwnI
    simpa using h1
  have hb : Below w.heap.size w w1 := ((Below.refl _ w).alloc (Nat.le_refl _) _).grown hgrow (by simp) (by intro k hk; simp [Value.ownBlock] at hk; omega)
  rcases h1.2 with ⟨rfl, h0⟩ | ⟨g, k, cur, rfl, hg, h3⟩
  · have := HN.out.2; omega
  · rw [HN.out.1]
    exact ⟨g, k, rfl, h1, hb, hg⟩
end Go.Proofs.YtkiapldehlnndabGreatDoor
/- refine: Members. -/
namespace Go.Proofs.YtkiapldehlnndabGreatDoor
open Go.RowKit Go.Maps
attribute [local go_sem ↓] Go.wp_at_zero Go.wp_at_succ
theorem rgu2 {w2 wa wb : World} {a0 a1 : Addr} {x0 x1 : Value} (hb : Below wa.heap.size wa wb) (h : (wa.cell? a0 = some x0 ∧ wa.cell? a1 = some x1) ∧ Hid (Below w2.heap.size w2 wa)) : (wb.cell? a0 = some x0 ∧ wb.cell? a1 = some x1) ∧ Hid (Below w2.heap.size w2 wb) :=
  ⟨⟨cellu h.1.1 hb, cellu h.1.2 hb⟩, (h.2.out.trans (hb.mono h.2.out.size) : Below w2.heap.size w2 wb)⟩
set_option maxRecDepth 100000 in
set_option maxHeartbeats 4000000 in
theorem members_ok (g : Nat) (c : Nat → Int) (s : Pst) (b : Nat) (w0 w : World) (hP : Pt w0 w g c) (hL : Lay c s) (hO : s.Ok) (hb : b < s.nb) :
    Calls Tryz.prog 52 #[.pointer (some ⟨g, 0, none⟩), .int .i64 b] w fun r w' => ∃ u, r = .returned (.tuple #[u, .nilIface]) ∧ OwnI w' w.heap.size u (s.mem b) ∧ Below w.heap.size w w' := by
  obtain ⟨v1, v2, v3, v4⟩ := hO.iv b hb
  have hn := hO.n1
  have hf := hO.few
  have hS := blocks_any g c w0 w hP
  rw [hL.nb] at hS
  have hl := lacks_ok g b s.nb w (by omega) (by omega)
  have c0 := hP.cell (i := 3002 + b * 3) (by omega)
  rw [hL.b b hb] at c0
  have c2 := hP.cell (i := 3002 + b * 3 + 2) (by omega)
  rw [hL.d b hb] at c2
  have e0 : (0 : Int) ≤ (b : Int) := by omega
  have e1 : (b : Int) < 1000 := by omega
  have hPa := fun W => part_any g (s.B b) (s.D b) v3 (by omega) W
  have hCl : ∀ W, Pt w0 W g c → Calls Tryz.prog 73 #[.slice (some ⟨g, 2 + s.B b, none⟩) (s.D b - s.B b) (s.D b - s.B b)] W fun r w' => ∃ h k, r = .returned (.slice (some ⟨h, 0, none⟩) (s.D b - s.B b) k) ∧ OwnI w' W.heap.size (.slice (some ⟨h, 0, none⟩) (s.D b - s.B b) k) (s.room b) ∧ Below W.heap.size W w' ∧ W.heap.size ≤ h := fun W hW => by
    have h := cloneI_any ⟨g, 2 + s.B b, none⟩ (s.D b - s.B b) (s.room b) W (by rw [room_len]; omega) (by rw [room_len]; omega) (fun j u hj => by
      unfold iC at hj
      rw [List.getElem?_map] at hj
      obtain ⟨z, hz, rfl⟩ := Option.map_eq_some_iff.1 hj
      have hj2 : j < s.D b - s.B b := by rw [← room_len]; exact (List.getElem?_eq_some_iff.1 hz).1
      rw [room_at s b hj2] at hz
      have h3 := hW.cell (i := 2 + (s.B b + j)) (by omega)
      rw [hL.e _ (by omega)] at h3
      obtain rfl := Option.some.inj hz
      rw [← Nat.add_assoc] at h3
      have h4 : (⟨g, 2 + s.B b, none⟩ : Addr).add j = ⟨g, 2 + s.B b + j, none⟩ := by simp [Addr.add]
      rw [h4]
      exact h3)
    rw [room_len] at h
    exact h
  have hSo : ∀ (W : World) (B h k : Nat), OwnI W B (.slice (some ⟨h, 0, none⟩) (s.D b - s.B b) k) (s.room b) → Calls Tryz.prog 75 #[.slice (some ⟨h, 0, none⟩) (s.D b - s.B b) k] W fun e w' => e = .returned (.tuple #[]) ∧ OwnI w' B (.slice (some ⟨h, 0, none⟩) (s.D b - s.B b) k) (s.mem b) ∧ W.grownBy w' (some h) := fun W B h k hW => by
    have h1 := sortI_any W B h k (s.room b) (by rw [room_len]; exact hW) (by rw [room_len]; omega)
    rw [room_len, room_sort hO hb] at h1
    exact h1
  have HPt : Hid (Pt w0 w g c) := hP
  have H : Hid _ := And.intro hS (And.intro hl (And.intro hPa (And.intro hCl hSo)))
  clear hS hl hPa hCl hSo hP hL hn hf hb v1 v2 v3 v4
  generalize s.room b = rm at H
  generalize s.mem b = mm at H ⊢
  generalize s.D b - s.B b = n at H
  generalize s.B b = B at *
  generalize s.D b = D at *
  generalize s.nb = nb at H
  clear hO
  go_enter Tryz.func52, Tryz.ntmps52
  go_upto_region 4 with (first
    | (go_at_call 46; refine Calls.mono H.out.1 ?_; rintro r w1 ⟨rfl, hw1⟩; obtain rfl := hw1.symm; clear hw1)
    | (go_at_call 61; refine Calls.mono H.out.2.1 ?_; rintro r w1 ⟨rfl, hw1⟩; obtain rfl := hw1.symm; clear hw1))
  go_region_held3 (fun w' => (w'.cell? ⟨g, 3002 + b * 3, none⟩ = some (.int .i64 B) ∧ w'.cell? ⟨g, 3002 + b * 3 + 2, none⟩ = some (.int .i64 D)) ∧ Hid (Below w.heap.size w w')) (first | exact rgu2 hb5 (by assumption) | exact ⟨⟨c0, c2⟩, ((Below.refl _ _).drew : Below w.heap.size w w.drew)⟩ | go_keep)
    ((first
      | (go_at_call 74; refine Calls.mono (H.out.2.2.1 _) ?_; rintro r w5 ⟨rfl, hw5⟩; obtain rfl := hw5.symm; clear hw5)
      | (go_at_call 73; refine Calls.mono (H.out.2.2.2.1 _ (HPt.out.below (rgb3 (by assumption)))) ?_; rintro r w5 ⟨h, k, rfl, hO5, hb5, hh5⟩)
      | fail))
  have hbw : Below w.heap.size w w5 := rgb3 (by assumption)
  have HB : Hid (OwnI w5 w.heap.size (.slice (some ⟨h, 0, none⟩) n k) rm ∧ Below w.heap.size w w5 ∧ w.heap.size ≤ h) := ⟨hO5, hbw, hh5⟩
  rename_i hS3
  clear hS3 hO5 hb5 hh5 hbw
  go_wp2_with (go_at_call 75; refine Calls.mono (H.out.2.2.2.2 w5 w.heap.size h k HB.out.1) ?_; rintro r w6 ⟨rfl, hO6, hg6⟩; have H6 : Hid _ := And.intro hO6 (HB.out.2.1.grown hg6 HB.out.2.1.size (by intro q hq; obtain rfl := Option.some.inj hq; exact HB.out.2.2)); clear hO6 hg6)
  go_ret2
  exact ⟨_, rfl, H6.out.1, H6.out.2⟩
end Go.Proofs.YtkiapldehlnndabGreatDoor
/- Plain facts on edges, their order and one form of their lists; on classes and their one form. Nothing of the program is in it. -/
namespace Go.Proofs.YtkiapldehlnndabGreatDoor.Sy
abbrev Ed : Type := Int × Int × Int
def lt (a b : Ed) : Bool := if a.1 != b.1 then decide (a.1 < b.1) else if a.2.1 != b.2.1 then decide (a.2.1 < b.2.1) else decide (a.2.2 < b.2.2)
theorem lt_iff (a b : Ed) : lt a b = true ↔ a.1 < b.1 ∨ a.1 = b.1 ∧ (a.2.1 < b.2.1 ∨ a.2.1 = b.2.1 ∧ a.2.2 < b.2.2) := by
  unfold lt
  by_cases h1 : a.1 = b.1
  · by_cases h2 : a.2.1 = b.2.1 <;> simp [h1, h2]
  · simp [h1]
theorem lt_irrefl (a : Ed) : lt a a = false := by
  cases h : lt a a with
  | false => rfl
  | true => rw [lt_iff] at h; omega
theorem lt_trans {a b c : Ed} (h1 : lt a b = true) (h2 : lt b c = true) : lt a c = true := by
  rw [lt_iff] at *; omega
theorem lt_asymm {a b : Ed} (h : lt a b = true) : lt b a = false := by
  cases h2 : lt b a with
  | false => rfl
  | true => rw [lt_iff] at h h2; omega
theorem eq_of_not {a b : Ed} (h1 : lt a b = false) (h2 : lt b a = false) : a = b := by
  have h3 : ¬ lt a b = true := by rw [h1]; simp
  have h4 : ¬ lt b a = true := by rw [h2]; simp
  rw [lt_iff] at h3 h4
  obtain ⟨x, y, z⟩ := a
  obtain ⟨u, v, w⟩ := b
  simp only at h3 h4
  have e1 : x = u := by omega
  have e2 : y = v := by omega
  have e3 : z = w := by omega
  rw [e1, e2, e3]
def Str : List Ed → Prop
  | [] => True
  | [_] => True
  | a :: b :: r => lt a b = true ∧ Str (b :: r)
theorem Str.tail {a : Ed} {r : List Ed} (h : Str (a :: r)) : Str r := by
  cases r with
  | nil => trivial
  | cons b s => exact h.2
theorem Str.head {a : Ed} {r : List Ed} (h : Str (a :: r)) : ∀ x ∈ r, lt a x = true := by
  induction r generalizing a with
  | nil => intro x hx; simp at hx
  | cons b s ih =>
    intro x hx
    rcases List.mem_cons.1 hx with rfl | hx
    · exact h.1
    · exact lt_trans h.1 (ih h.2 x hx)
theorem Str.cons {a : Ed} {r : List Ed} (h : Str r) (h2 : ∀ x ∈ r, lt a x = true) : Str (a :: r) := by
  cases r with
  | nil => trivial
  | cons b s => exact ⟨h2 b List.mem_cons_self, h⟩
theorem Str.snoc {l : List Ed} {x : Ed} (h : Str l) (h2 : ∀ y ∈ l, lt y x = true) : Str (l ++ [x]) := by
  induction l with
  | nil => trivial
  | cons a r ih =>
    refine Str.cons (ih h.tail fun y hy => h2 y (List.mem_cons_of_mem _ hy)) fun y hy => ?_
    rcases List.mem_append.1 hy with hy | hy
    · exact h.head y hy
    · rw [List.mem_singleton.1 hy]; exact h2 a List.mem_cons_self
theorem Str.unique {l m : List Ed} (hl : Str l) (hm : Str m) (h : ∀ x, x ∈ l ↔ x ∈ m) : l = m := by
  induction l generalizing m with
  | nil =>
    cases m with
    | nil => rfl
    | cons b s => exact absurd ((h b).2 List.mem_cons_self) (by simp)
  | cons a r ih =>
    cases m with
    | nil => exact absurd ((h a).1 List.mem_cons_self) (by simp)
    | cons b s =>
      have e : a = b := by
        rcases List.mem_cons.1 ((h a).1 List.mem_cons_self) with e | ha
        · exact e
        · rcases List.mem_cons.1 ((h b).2 List.mem_cons_self) with e | hb
          · exact e.symm
          · have h1 := hm.head a ha
            have h2 := hl.head b hb
            rw [lt_asymm h1] at h2
            cases h2
      subst e
      congr 1
      refine ih hl.tail hm.tail fun x => ⟨fun hx => ?_, fun hx => ?_⟩
      · rcases List.mem_cons.1 ((h x).1 (List.mem_cons_of_mem _ hx)) with e | hx2
        · subst e; have h1 := hl.head x hx; rw [lt_irrefl] at h1; cases h1
        · exact hx2
      · rcases List.mem_cons.1 ((h x).2 (List.mem_cons_of_mem _ hx)) with e | hx2
        · subst e; have h1 := hm.head x hx; rw [lt_irrefl] at h1; cases h1
        · exact hx2
def ins (x : Ed) : List Ed → List Ed
  | [] => [x]
  | a :: r => if lt x a then x :: a :: r else if lt a x then a :: ins x r else a :: r
theorem ins_mem (x y : Ed) (l : List Ed) : y ∈ ins x l ↔ y = x ∨ y ∈ l := by
  induction l with
  | nil => simp [ins]
  | cons a r ih =>
    unfold ins
    cases h1 : lt x a with
    | true => simp
    | false =>
      cases h2 : lt a x with
      | true =>
        simp only [Bool.false_eq_true, if_false, if_true, List.mem_cons, ih]
        constructor
        · rintro (h | h | h) <;> simp [h]
        · rintro (h | h | h) <;> simp [h]
      | false =>
        have e := eq_of_not h1 h2
        subst e
        simp
theorem ins_str (x : Ed) (l : List Ed) (h : Str l) : Str (ins x l) := by
  induction l with
  | nil => trivial
  | cons a r ih =>
    unfold ins
    cases h1 : lt x a with
    | true => exact ⟨h1, h⟩
    | false =>
      cases h2 : lt a x with
      | true =>
        simp only [Bool.false_eq_true, if_false, if_true]
        refine Str.cons (ih h.tail) fun y hy => ?_
        rcases (ins_mem x y r).1 hy with rfl | hy
        · exact h2
        · exact h.head y hy
      | false => exact h
def nf : List Ed → List Ed
  | [] => []
  | a :: r => ins a (nf r)
theorem nf_mem (l : List Ed) (x : Ed) : x ∈ nf l ↔ x ∈ l := by
  induction l with
  | nil => simp [nf]
  | cons a r ih => simp [nf, ins_mem, ih]
theorem nf_str (l : List Ed) : Str (nf l) := by
  induction l with
  | nil => trivial
  | cons a r ih => exact ins_str a _ ih
theorem nf_of {l m : List Ed} (h : Str m) (hm : ∀ x, x ∈ m ↔ x ∈ l) : m = nf l := h.unique (nf_str l) fun x => (hm x).trans (nf_mem l x).symm
theorem ins_len (x : Ed) (l : List Ed) : (ins x l).length ≤ l.length + 1 := by
  induction l with
  | nil => simp [ins]
  | cons a r ih =>
    unfold ins
    cases h1 : lt x a <;> cases h2 : lt a x <;> simp <;> omega
theorem nf_len (l : List Ed) : (nf l).length ≤ l.length := by
  induction l with
  | nil => simp [nf]
  | cons a r ih => have := ins_len a (nf r); simp only [nf, List.length_cons]; omega
theorem str_len {m l : List Ed} (h : Str m) (hs : ∀ x ∈ m, x ∈ l) : m.length ≤ l.length := by
  have e : m = nf m := nf_of h fun _ => Iff.rfl
  induction m generalizing l with
  | nil => simp
  | cons a r ih =>
    have ha := hs a List.mem_cons_self
    have h1 : r.length ≤ (l.erase a).length := by
      refine ih h.tail (fun x hx => ?_) (nf_of h.tail fun _ => Iff.rfl)
      have h2 := h.head x hx
      have hne : x ≠ a := fun e => by rw [e, lt_irrefl] at h2; cases h2
      exact (List.mem_erase_of_ne hne).2 (hs x (List.mem_cons_of_mem _ hx))
    rw [List.length_erase_of_mem ha] at h1
    have := List.length_pos_of_mem ha
    simp only [List.length_cons]
    omega
def put (out : List Ed) (e : Ed) : List Ed := if out.getLast? = some e then out else out ++ [e]
theorem put_str {out : List Ed} {e : Ed} (h : Str out) (hle : ∀ x ∈ out, lt e x = false) : Str (put out e) := by
  unfold put
  split
  · exact h
  · rename_i hne
    refine h.snoc fun y hy => ?_
    have hys : ∀ (l : List Ed) (z : Ed), Str l → l.getLast? = some z → ∀ y ∈ l, y = z ∨ lt y z = true := fun l => by
      induction l with
      | nil => intro z _ hz; simp at hz
      | cons a r ih =>
        intro z hs hz y hy
        cases r with
        | nil => simp at hz hy; subst hz; exact .inl hy
        | cons b s =>
          rw [List.getLast?_cons_cons] at hz
          rcases List.mem_cons.1 hy with rfl | hy
          · have hzm := List.mem_of_getLast? hz
            exact .inr (hs.head z hzm)
          · exact ih z hs.tail hz y hy
    cases hl : out.getLast? with
    | none => rw [List.getLast?_eq_none_iff] at hl; subst hl; simp at hy
    | some z =>
      have hzm := List.mem_of_getLast? hl
      have hz1 : lt z e = true := by
        cases h1 : lt z e with
        | true => rfl
        | false => exact absurd (by rw [hl, eq_of_not h1 (hle z hzm)]) hne
      rcases hys out z h hl y hy with rfl | h2
      · exact hz1
      · exact lt_trans h2 hz1
theorem put_mem (out : List Ed) (e x : Ed) : x ∈ put out e ↔ x ∈ out ∨ x = e := by
  unfold put
  split
  · rename_i h
    have := List.mem_of_getLast? h
    constructor
    · exact .inl
    · rintro (h | rfl)
      · exact h
      · exact this
  · simp
structure Mg (a b : List Ed) (i k : Nat) (out : List Ed) : Prop where
  s : Str out
  m : ∀ x, x ∈ out ↔ x ∈ a.take i ∨ x ∈ b.take k
  ha : ∀ x ∈ out, ∀ y ∈ a.drop i, lt y x = false
  hb : ∀ x ∈ out, ∀ y ∈ b.drop k, lt y x = false
def right (n k s : Int) (es : List Ed) : Bool :=
  decide (0 ≤ n ∧ n ≤ 1000 ∧ 1 ≤ k ∧ k ≤ 201 ∧ es.length ≤ 10000) && decide ((n = 0 → s = 0) ∧ (0 < n → 0 ≤ s ∧ s < n)) && es.all fun e => decide (0 ≤ e.1 ∧ e.1 < n ∧ 0 ≤ e.2.2 ∧ e.2.2 < n ∧ 0 ≤ e.2.1 ∧ e.2.1 < k)
def turn (e : Ed) : Ed := (e.2.2, e.2.1, e.1)
def place (c : Int) : List Int → Nat
  | [] => 0
  | a :: r => if a = c then 0 else place c r + 1
theorem place_le (c : Int) (l : List Int) : place c l ≤ l.length := by
  induction l with
  | nil => simp [place]
  | cons a r ih => unfold place; split <;> simp <;> omega
def canonG : List Int → List Int → List Nat
  | _, [] => []
  | seen, c :: r => place c seen :: canonG (if place c seen < seen.length then seen else seen ++ [c]) r
def canon (l : List Int) : List Nat := canonG [] l
def seenG : List Int → List Int → List Int
  | seen, [] => seen
  | seen, c :: r => seenG (if place c seen < seen.length then seen else seen ++ [c]) r
theorem canonG_len (l : List Int) : ∀ seen, (canonG seen l).length = l.length := by
  induction l with
  | nil => intro _; rfl
  | cons c r ih => intro seen; simp [canonG, ih]
theorem canonG_app (a b : List Int) : ∀ seen, canonG seen (a ++ b) = canonG seen a ++ canonG (seenG seen a) b := by
  induction a with
  | nil => intro _; rfl
  | cons c r ih => intro seen; simp only [List.cons_append, canonG, seenG]; rw [ih]
theorem seenG_app (a b : List Int) : ∀ seen, seenG seen (a ++ b) = seenG (seenG seen a) b := by
  induction a with
  | nil => intro _; rfl
  | cons c r ih => intro seen; simp only [List.cons_append, seenG]; rw [ih]
theorem seenG_len (l : List Int) : ∀ seen, (seenG seen l).length ≤ seen.length + l.length := by
  induction l with
  | nil => intro _; simp [seenG]
  | cons c r ih =>
    intro seen
    simp only [seenG]
    have h1 := ih (if place c seen < seen.length then seen else seen ++ [c])
    have h2 : (if place c seen < seen.length then seen else seen ++ [c]).length ≤ seen.length + 1 := by split <;> simp
    simp only [List.length_cons]
    omega
def top : List Nat → Nat
  | [] => 0
  | k :: r => max (k + 1) (top r)
def together (l : List Int) : Nat := top (canon l)
def formG : Nat → List Int → Bool
  | _, [] => true
  | n, c :: r => decide (0 ≤ c ∧ c ≤ n) && formG (if c = (n : Int) then n + 1 else n) r
end Go.Proofs.YtkiapldehlnndabGreatDoor.Sy
/- Contracts of the document's Canon, Together and Classes. -/
namespace Go.Proofs.YtkiapldehlnndabGreatDoor
open Go.RowKit Go.Maps
attribute [local go_sem ↓] Go.wp_at_zero Go.wp_at_succ
namespace Sy
theorem place_app (c : Int) (a b : List Int) (h : ∀ x ∈ a, x ≠ c) : place c (a ++ b) = a.length + place c b := by
  induction a with
  | nil => simp
  | cons x r ih =>
    have hx := h x List.mem_cons_self
    simp only [List.cons_append, place, if_neg hx, List.length_cons]
    rw [ih fun y hy => h y (List.mem_cons_of_mem _ hy)]
    omega
theorem canon_step {zs : List Int} {i : Nat} {z : Int} (h : zs[i]? = some z) : canonG [] (zs.take (i + 1)) = canonG [] (zs.take i) ++ [place z (seenG [] (zs.take i))] := by
  obtain ⟨hl, rfl⟩ := List.getElem?_eq_some_iff.1 h
  rw [List.take_succ_eq_append_getElem hl, canonG_app]
  rfl
theorem seen_step {zs : List Int} {i : Nat} {z : Int} (h : zs[i]? = some z) : seenG [] (zs.take (i + 1)) = if place z (seenG [] (zs.take i)) < (seenG [] (zs.take i)).length then seenG [] (zs.take i) else seenG [] (zs.take i) ++ [z] := by
  obtain ⟨hl, rfl⟩ := List.getElem?_eq_some_iff.1 h
  rw [List.take_succ_eq_append_getElem hl, seenG_app]
  rfl
end Sy
def natC (l : List Nat) : List Value := l.map fun (k : Nat) => Value.int .i64 (k : Int)
theorem natC_len (l : List Nat) : (natC l).length = l.length := by simp [natC]
def natI (l : List Nat) : List Int := l.map fun (k : Nat) => (k : Int)
theorem iC_nat (l : List Nat) : iC (natI l) = natC l := by simp [iC, natI, natC]
theorem natC_step (C : List Nat) (n i k : Nat) (hC : C.length = i) (hi : i < n) : (natC C ++ List.replicate (n - i) (Value.int .i64 0)).set i (.int .i64 (k : Int)) = natC (C ++ [k]) ++ List.replicate (n - (i + 1)) (Value.int .i64 0) := by
  have e : n - i = (n - (i + 1)) + 1 := by omega
  rw [List.set_append_right _ _ (by rw [natC_len]; omega), natC_len, hC, Nat.sub_self, e, List.replicate_succ, List.set_cons_zero]
  simp [natC]
end Go.Proofs.YtkiapldehlnndabGreatDoor
/- 'append(v, x...)' that tells whether the old row stands: in place, or in new memory with all blocks as they were. (A law of my own, over the library's own laws on append.) -/
namespace Go.Proofs.YtkiapldehlnndabGreatDoor
open Go.RowKit
end Go.Proofs.YtkiapldehlnndabGreatDoor
/- The book's lists of Edges: what it holds in memory, and contracts of the book's parts over them. (Written by mkbx.py out of BX.tmpl.) -/
namespace Go.Proofs.YtkiapldehlnndabGreatDoor.BEdges
open Go.RowKit Go.Maps
attribute [local go_sem ↓] Go.wp_at_zero Go.wp_at_succ
abbrev El : Type := Int × Int × Int
def enc (z : El) : List Value := [.int .i64 z.1, .int .i64 z.2.1, .int .i64 z.2.2]
def C (zs : List El) : List Value := zs.flatMap enc
theorem enc_len (z : El) : (enc z).length = 3 := rfl
theorem C_len (zs : List El) : (C zs).length = zs.length * 3 := by
  unfold C
  induction zs with
  | nil => rfl
  | cons z r ih => rw [List.flatMap_cons, List.length_append, ih, enc_len, List.length_cons]; omega
theorem C_app (a b : List El) : C (a ++ b) = C a ++ C b := List.flatMap_append
theorem C_one (zs : List El) : ∀ u ∈ C zs, u.oneCell' = true := fun u hu => by
  obtain ⟨z, _, hz⟩ := List.mem_flatMap.1 hu
  simp only [enc, List.mem_cons, List.not_mem_nil, or_false] at hz
  rcases hz with rfl | rfl | rfl <;> rfl
theorem C_at : ∀ (zs : List El) (k : Nat) (z : El), zs[k]? = some z → ∀ q, q < 3 → (C zs)[k * 3 + q]? = (enc z)[q]?
  | [], _, _, h, _, _ => by simp at h
  | y :: r, 0, z, h, q, hq => by
    simp at h
    subst h
    show (enc y ++ C r)[0 * 3 + q]? = _
    rw [List.getElem?_append_left (by rw [enc_len]; omega)]
    congr 1
    omega
  | y :: r, k + 1, z, h, q, hq => by
    have ih := C_at r k z (by simpa using h) q hq
    show (enc y ++ C r)[(k + 1) * 3 + q]? = _
    rw [List.getElem?_append_right (by rw [enc_len]; omega), enc_len, ← ih]
    congr 1
    omega
theorem C_set (zs : List El) {k : Nat} (hk : k < zs.length) (x : El) : C (zs.set k x) = ((((C zs).set (k * 3) (.int .i64 x.1)).set (k * 3 + 1) (.int .i64 x.2.1)).set (k * 3 + 2) (.int .i64 x.2.2)) := by
  apply List.ext_getElem?
  intro j
  by_cases hj : j / 3 = k
  · obtain ⟨q, hq, rfl⟩ : ∃ q, q < 3 ∧ j = k * 3 + q := ⟨j % 3, Nat.mod_lt _ (by decide), by omega⟩
    rw [C_at (zs.set k x) k x (List.getElem?_set_self hk) q hq]
    have hl : (C zs).length = zs.length * 3 := C_len zs
    have hq' : q = 0 ∨ q = 1 ∨ q = 2 := by omega
    rcases hq' with rfl | rfl | rfl <;> simp [List.getElem?_set, hl, enc] <;> omega
  · have e : (C (zs.set k x))[j]? = (C zs)[j]? := by
      rcases Nat.lt_or_ge (j / 3) zs.length with h | h
      · obtain ⟨z, hz⟩ : ∃ z, zs[j / 3]? = some z := ⟨_, List.getElem?_eq_getElem h⟩
        have hz' : (zs.set k x)[j / 3]? = some z := by rw [List.getElem?_set_ne (fun e => hj e.symm)]; exact hz
        have e0 : j = j / 3 * 3 + j % 3 := by omega
        rw [e0, C_at _ _ z hz' _ (Nat.mod_lt _ (by decide)), C_at _ _ z hz _ (Nat.mod_lt _ (by decide))]
      · rw [List.getElem?_eq_none (by rw [C_len, List.length_set]; omega), List.getElem?_eq_none (by rw [C_len]; omega)]
    rw [e]
    rw [List.getElem?_set_ne (by omega), List.getElem?_set_ne (by omega), List.getElem?_set_ne (by omega)]
def Own (w : World) (B : Nat) (v : Value) (zs : List El) : Prop := w.ownsRow B 33 3 v zs.length (C zs)
def Has (w : World) (v : Value) (zs : List El) : Prop := ∃ ao cap, v = .slice ao zs.length cap ∧ ∀ (j : Nat) (u : Value), (C zs)[j]? = some u → ∃ a, ao = some a ∧ w.cell? (a.add j) = some u
theorem Has.below {w w' : World} {v : Value} {zs : List El} (h : Has w v zs) (hb : Below w.heap.size w w') : Has w' v zs := by
  obtain ⟨ao, cap, h1, h2⟩ := h
  refine ⟨ao, cap, h1, fun i p hi => ?_⟩
  obtain ⟨a, ha, c0⟩ := h2 i p hi
  exact ⟨a, ha, (hb.cell (World.block_lt_of_cell? w _ c0)).trans c0⟩
theorem C_nil {zs : List El} (h : zs ≠ []) : ∃ u, (C zs)[0]? = some u := by
  cases zs with
  | nil => exact absurd rfl h
  | cons z r =>
    have h1 := C_at (z :: r) 0 z rfl 0 (by decide)
    have h2 : (enc z)[0]? = some ((enc z)[0]'(by rw [enc_len]; decide)) := List.getElem?_eq_getElem _
    exact ⟨_, h1.trans h2⟩
theorem Own.at {w : World} {B g cap n : Nat} {zs : List El} (h : Own w B (.slice (some ⟨g, 0, none⟩) n cap) zs) {j : Nat} {u : Value} (hj : (C zs)[j]? = some u) : w.cell? ⟨g, j, none⟩ = some u := by
  obtain ⟨ao', cap', hv⟩ := row_shape h
  injection hv with _ e _
  subst e
  have h' : w.ownsRow B 33 3 (.slice (some ⟨g, 0, none⟩) zs.length cap) zs.length (C zs) := h
  rw [h'.cellAt j (by rw [← h'.1]; exact (List.getElem?_eq_some_iff.1 hj).1), hj]
theorem Own.has {w : World} {B : Nat} {v : Value} {zs : List El} (h : Own w B v zs) : Has w v zs := by
  obtain ⟨ao, cap, hv⟩ := row_shape h
  refine ⟨ao, cap, hv, fun j u hj => ?_⟩
  have hlt := (List.getElem?_eq_some_iff.1 hj).1
  rw [C_len] at hlt
  obtain ⟨g, c, hf, _, _⟩ := World.ownsRow.form h (by omega)
  rw [hv] at hf
  injection hf with e1 e2 e3
  subst e1; subst e3
  refine ⟨_, rfl, ?_⟩
  rw [addz]
  rw [hv] at h
  exact Own.at h hj
theorem add_q (a : Addr) (m q : Nat) : (a.add m).add q = a.add (m + q) := by
  unfold Addr.add
  by_cases h1 : m = 0 <;> by_cases h2 : q = 0 <;> simp [h1, h2] <;> omega
theorem copy_of {w : World} {ao : Option Addr} {n cap : Nat} {zs : List El} (h : Has w (.slice ao n cap) zs) : (ao = none → n = 0) ∧ ∀ ad, ao = some ad → ∀ j u, (C zs)[j]? = some u → w.cell? (ad.add j) = some u := by
  obtain ⟨ao', cap', hv, h2⟩ := h
  injection hv with e1 e2 e3
  subst e1
  refine ⟨fun e => ?_, fun ad e j u hj => ?_⟩
  · rw [e2]
    by_cases hz : zs = []
    · rw [hz]; rfl
    · obtain ⟨u, hu⟩ := C_nil hz
      obtain ⟨a, ha, _⟩ := h2 0 u hu
      rw [e] at ha; cases ha
  · obtain ⟨a, ha, hc⟩ := h2 j u hj
    rw [e] at ha
    cases ha
    exact hc
def mk1 (i k : Nat) : El := (-1 - (i : Int), (k : Int), 7)
def marks (i f n : Nat) : List El := (List.range n).map fun k => mk1 i (f + k)
theorem Tryz.infoE : (Tryz.prog.info? 33).map (fun i => (i.zero, i.size, i.bytes)) = some (some (.agg #[.int .i64 0, .int .i64 0, .int .i64 0]), 3, 24) := by kernel_rfl
theorem C_snoc (zs : List El) (z : El) : C (zs ++ [z]) = C zs ++ enc z := by
  rw [C_app]
  show _ ++ (enc z ++ []) = _
  rw [List.append_nil]
end Go.Proofs.YtkiapldehlnndabGreatDoor.BEdges
/- Contracts of the document's Right and Check of systems. -/
namespace Go.Proofs.YtkiapldehlnndabGreatDoor
open Go.RowKit Go.Maps
attribute [local go_sem ↓] Go.wp_at_zero Go.wp_at_succ
def sysV (n k s : Int) (v : Value) : Value := .agg #[.int .i64 n, .int .i64 k, .int .i64 s, v]
theorem four_cells {w : World} {b : Nat} {x0 x1 x2 x3 : Value} {t : TypeId} (h : w.heap[b]? = some (.cells #[x0, x1, x2, x3] t (0, 0))) : w.cell? ⟨b, 0, none⟩ = some x0 ∧ w.cell? ⟨b, 1, none⟩ = some x1 ∧ w.cell? ⟨b, 2, none⟩ = some x2 ∧ w.cell? ⟨b, 3, none⟩ = some x3 := by
  simp [World.cell?, h]
theorem edge_at {w : World} {ao : Option Addr} {n cap : Nat} {es : List BEdges.El} (h : BEdges.Has w (.slice ao n cap) es) {j : Nat} {z : BEdges.El} (hz : es[j]? = some z) :
    ∃ a, ao = some a ∧ w.cell? (a.add (j * 3)) = some (.int .i64 z.1) ∧ w.cell? ⟨(a.add (j * 3)).block, (a.add (j * 3)).off + 1, none⟩ = some (.int .i64 z.2.1) ∧ w.cell? ⟨(a.add (j * 3)).block, (a.add (j * 3)).off + 2, none⟩ = some (.int .i64 z.2.2) := by
  obtain ⟨ao', cap', hv, hc⟩ := h
  injection hv with e1 e2 e3
  subst e1
  obtain ⟨a, rfl, c0⟩ := hc (j * 3 + 0) _ ((BEdges.C_at es j z hz 0 (by decide)).trans rfl)
  obtain ⟨a1, e1, c1⟩ := hc (j * 3 + 1) _ ((BEdges.C_at es j z hz 1 (by decide)).trans rfl)
  cases e1
  obtain ⟨a2, e2, c2⟩ := hc (j * 3 + 2) _ ((BEdges.C_at es j z hz 2 (by decide)).trans rfl)
  cases e2
  refine ⟨a, rfl, by simpa using c0, ?_, ?_⟩
  · rw [← BEdges.add_q] at c1; exact c1
  · rw [← BEdges.add_q] at c2; exact c2
def edgeOk (n k : Int) (e : Sy.Ed) : Bool := decide (0 ≤ e.1 ∧ e.1 < n ∧ 0 ≤ e.2.2 ∧ e.2.2 < n ∧ 0 ≤ e.2.1 ∧ e.2.1 < k)
end Go.Proofs.YtkiapldehlnndabGreatDoor
/- Contracts of the document's Together and Classes. -/
namespace Go.Proofs.YtkiapldehlnndabGreatDoor
open Go.RowKit Go.Maps
attribute [local go_sem ↓] Go.wp_at_zero Go.wp_at_succ
def Sy.classes (n : Int) (zs : List Int) : Bool := decide ((zs.length : Int) = n) && Sy.formG 0 zs
end Go.Proofs.YtkiapldehlnndabGreatDoor
