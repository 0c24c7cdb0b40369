/- refine: Split. -/
import Derived.Test.YthfnikglcpoioaaDoorRfPart
namespace Go.Proofs.YthfnikglcpoioaaDoor
open Go.RowKit Go.Maps
attribute [local go_sem ↓] Go.wp_at_zero Go.wp_at_succ
theorem cellu {w w' : World} {a : Addr} {x : Value} (h : w.cell? a = some x) (hb : Below w.heap.size w w') : w'.cell? a = some x := (hb.cell (World.block_lt_of_cell? w _ h)).trans h
set_option maxRecDepth 100000 in
set_option maxHeartbeats 4000000 in
theorem split_none (g : Nat) (c : Nat → Int) (s : Pst) (b : Nat) (w0 w : World) (hP : Pt w0 w g c) (hL : Lay c s) (hO : s.Ok) (hb : b < s.nb) (hm : s.R b = s.B b ∨ s.D b = s.R b) :
    Calls Tryd.prog 11 #[.pointer (some ⟨g, 0, none⟩), .int .i64 b] w fun r w' => r = .returned (.tuple #[.int .i64 0, .bool false, .nilIface]) ∧ Pt w0 w' g (upd c (3002 + b * 3 + 1) (s.B b)) ∧ Kept (fun i => i = g) w w' := by
  obtain ⟨v1, v2, v3, v4⟩ := hO.iv b hb
  have hn := hO.n1
  have hf := hO.few
  have hS := blocks_any g c w0 w hP
  rw [hL.nb] at hS
  have hl := lacks_ok g b s.nb w (by omega) (by omega)
  have c0 := hP.cell (i := 3002 + b * 3) (by omega)
  rw [hL.b b hb] at c0
  have c1 := hP.cell (i := 3002 + b * 3 + 1) (by omega)
  rw [hL.r b hb] at c1
  have c2 := hP.cell (i := 3002 + b * 3 + 2) (by omega)
  rw [hL.d b hb] at c2
  have e0 : (0 : Int) ≤ (b : Int) := by omega
  have e1 : (b : Int) < 1000 := by omega
  have hM := fun W => marks_any (s.B b) (s.R b) (s.D b) v1 (by omega) W
  have hT := fun W => others_any (s.B b) (s.R b) (s.D b) v2 (by omega) W
  have l0 : b < 1000 := by omega
  generalize s.B b = B at *
  generalize s.R b = R at *
  generalize s.D b = D at *
  generalize s.nb = nb at hS hl
  have hgl := Arr.lt hP
  have hb1 : Below w.heap.size w (w.alloc (.cells #[.int .i64 B, .int .i64 R, .int .i64 D] 55)) := (Below.refl _ _).alloc (Nat.le_refl _) _
  have hn1 : (w.alloc (.cells #[.int .i64 B, .int .i64 R, .int .i64 D] 55)).heap[w.heap.size]? = some (.cells #[.int .i64 B, .int .i64 R, .int .i64 D] 55 (0, 0)) := heap_alloc_new _ _
  have H : Hid _ := And.intro hS (And.intro hl (And.intro hM (And.intro hT (And.intro hP (And.intro hb1 hn1)))))
  clear hS hl hP hL hO hn hf hM hT hb1 hn1
  by_cases h1 : R = B
  · have m0 : ((R - B : Nat) : Int) = 0 := by omega
    have m1 : R - B = 0 := by omega
    have HB : Hid (R = B) := h1
    clear h1 hm v1 v2 v3 v4
    go_enter Tryd.func11, Tryd.ntmps11
    go_wp2_with (first
      | (go_at_call 13; refine Calls.mono H.out.1 ?_; rintro r w1 ⟨rfl, hw1⟩; obtain rfl := hw1.symm; clear hw1)
      | (go_at_call 19; refine Calls.mono H.out.2.1 ?_; rintro r w1 ⟨rfl, hw1⟩; obtain rfl := hw1.symm; clear hw1)
      | (go_at_call 25; refine Calls.mono (H.out.2.2.1 _) ?_; rintro r w2 ⟨rfl, hb2⟩))
    have hP2 := (H.out.2.2.2.2.1.below H.out.2.2.2.2.2.1).below hb2
    have y0 := cell0_of (k := 0) ((hb2.block _ (t_lt H.out.2.2.2.2.2.2)).trans H.out.2.2.2.2.2.2) rfl
    have y1 := hP2.cell (i := 3002 + b * 3 + 1) (by omega)
    have f1 := hP2.free (3002 + b * 3 + 1)
    have hgn : ¬ g = w.heap.size := by omega
    have hgn2 : ¬ w.heap.size = g := by omega
    have HZ : Hid _ := And.intro hP2 (Kept.of_below (F := fun i => i = g) (H.out.2.2.2.2.2.1.trans (hb2.mono H.out.2.2.2.2.2.1.size)))
    clear hP2 hb2
    go_region
    all_goals go_wp2_with fail
    all_goals
      refine bodyPost_ret (v := .tuple #[.int .i64 0, .bool false, .nilIface]) (by simp [results, Tryd.results11, go_sem]) rfl ?_
      exact ⟨rfl, (HZ.out.1.set _ _).below (Below.refl _ _).drew, (HZ.out.2.trans (Kept.setCell _ _ _ _)).trans (Kept.of_below (Below.refl _ _).drew)⟩
  · have m0 : ¬ ((R - B : Nat) : Int) = 0 := by omega
    have m1 : ¬ R - B = 0 := by omega
    have o0 : ((D - R : Nat) : Int) = 0 := by omega
    have o1 : D - R = 0 := by omega
    have m2 : decide (((R - B : Nat) : Int) = 0) = false := decide_eq_false m0
    clear h1 hm v1 v2 v3 v4
    go_enter Tryd.func11, Tryd.ntmps11
    go_wp2_with (first
      | (go_at_call 13; refine Calls.mono H.out.1 ?_; rintro r w1 ⟨rfl, hw1⟩; obtain rfl := hw1.symm; clear hw1)
      | (go_at_call 19; refine Calls.mono H.out.2.1 ?_; rintro r w1 ⟨rfl, hw1⟩; obtain rfl := hw1.symm; clear hw1)
      | (go_at_call 25; refine Calls.mono (H.out.2.2.1 _) ?_; rintro r w1 ⟨rfl, hb1⟩; have y0 := cellu (cell0_of (k := 0) H.out.2.2.2.2.2.2 rfl) hb1; have y1 := cellu (cell0_of (k := 1) H.out.2.2.2.2.2.2 rfl) hb1; have y2 := cellu (cell0_of (k := 2) H.out.2.2.2.2.2.2 rfl) hb1)
      | (go_at_call 26; refine Calls.mono (H.out.2.2.2.1 _) ?_; rintro r w2 ⟨rfl, hb2'⟩; have hb2 := hb1.trans (hb2'.mono hb1.size)))
    clear y0 y1 y2 hb2' hb1
    have hP2 := (H.out.2.2.2.2.1.below H.out.2.2.2.2.2.1).below hb2
    have y0 := cell0_of (k := 0) ((hb2.block _ (t_lt H.out.2.2.2.2.2.2)).trans H.out.2.2.2.2.2.2) rfl
    have y1 := hP2.cell (i := 3002 + b * 3 + 1) (by omega)
    have f1 := hP2.free (3002 + b * 3 + 1)
    have hgn : ¬ g = w.heap.size := by omega
    have hgn2 : ¬ w.heap.size = g := by omega
    have HZ : Hid _ := And.intro hP2 (Kept.of_below (F := fun i => i = g) (H.out.2.2.2.2.2.1.trans (hb2.mono H.out.2.2.2.2.2.1.size)))
    clear hP2 hb2
    go_region
    all_goals go_wp2_with fail
    all_goals
      refine bodyPost_ret (v := .tuple #[.int .i64 0, .bool false, .nilIface]) (by simp [results, Tryd.results11, go_sem]) rfl ?_
      exact ⟨rfl, (HZ.out.1.set _ _).below (Below.refl _ _).drew, (HZ.out.2.trans (Kept.setCell _ _ _ _)).trans (Kept.of_below (Below.refl _ _).drew)⟩
end Go.Proofs.YthfnikglcpoioaaDoor
