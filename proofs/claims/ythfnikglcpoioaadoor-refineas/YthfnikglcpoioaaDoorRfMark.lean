/- refine: Mark. -/
import Derived.Test.YthfnikglcpoioaaDoorRfOps
import Derived.Test.YthfnikglcpoioaaDoorRfMark0
import Derived.Deep.RegionLaw
import Derived.Deep.DeepCutAuto
namespace Go.Proofs.YthfnikglcpoioaaDoor
open Go.RowKit Go.Maps
attribute [local go_sem ↓] Go.wp_at_zero Go.wp_at_succ
set_option maxRecDepth 100000 in
set_option maxHeartbeats 4000000 in
theorem mark_old (g : Nat) (c : Nat → Int) (s : Pst) (e : Nat) (w0 w : World) (hP : Pt w0 w g c) (hL : Lay c s) (hO : s.Ok) (he : e < s.n) (hm : s.P e < s.R (s.O e)) :
    Calls Tryd.prog 8 #[.pointer (some ⟨g, 0, none⟩), .int .i64 e] w fun r w' => r = .returned (.tuple #[.bool false, .nilIface]) ∧ Below w.heap.size w w' := by
  obtain ⟨o1, o2, o3⟩ := hO.o e he
  have hn := hO.n1
  have hf := hO.few
  have hS := size_any g c w0 w hP
  rw [hL.n] at hS
  have hl := lacks_ok g e s.n w (by omega) (by omega)
  have c1 := hP.cell (i := 2002 + e) (by omega)
  rw [hL.o e he] at c1
  have c2 := hP.cell (i := 1002 + e) (by omega)
  rw [hL.p e he] at c2
  have c3 := hP.cell (i := 3002 + s.O e * 3 + 1) (by omega)
  rw [hL.r _ o1] at c3
  have e0 : (0 : Int) ≤ (e : Int) := by omega
  have e1 : (e : Int) < 1000 := by omega
  have q0 : (0 : Int) ≤ (s.O e : Int) := by omega
  have q1 : (s.O e : Int) < 1000 := by omega
  have m1 : (s.P e : Int) < (s.R (s.O e) : Int) := by omega
  generalize s.n = n at hS hl
  generalize s.P e = pl at c2 m1
  generalize s.R (s.O e) = q at c3 m1
  generalize s.O e = o at c1 c3 q0 q1
  have H : Hid _ := And.intro hS hl
  have d1 := (Below.refl w.heap.size w).drew
  have c1' := (d1.cell (World.block_lt_of_cell? w _ c1)).trans c1
  have c2' := (d1.cell (World.block_lt_of_cell? w _ c2)).trans c2
  have c3' := (d1.cell (World.block_lt_of_cell? w _ c3)).trans c3
  have HD : Hid _ := And.intro d1 trivial
  clear hS hl hP hL hO he o1 o2 o3 hm hn hf d1
  go_enter Tryd.func8, Tryd.ntmps8
  go_wp2_with (first
    | (go_at_call 15; refine Calls.mono H.out.1 ?_; rintro r w1 ⟨rfl, hw1⟩; obtain rfl := hw1.symm; clear hw1)
    | (go_at_call 19; refine Calls.mono H.out.2 ?_; rintro r w1 ⟨rfl, hw1⟩; obtain rfl := hw1.symm; clear hw1))
  go_region
  all_goals go_wp2_with fail
  all_goals
    go_ret2
    exact ⟨rfl, HD.out.1⟩
set_option maxRecDepth 100000 in
set_option maxHeartbeats 4000000 in
theorem mark_new (g : Nat) (c : Nat → Int) (s : Pst) (e : Nat) (w0 w : World) (hP : Pt w0 w g c) (hL : Lay c s) (hO : s.Ok) (he : e < s.n) (hm : ¬ s.P e < s.R (s.O e)) :
    Calls Tryd.prog 8 #[.pointer (some ⟨g, 0, none⟩), .int .i64 e] w fun r w' => r = .returned (.tuple #[.bool true, .nilIface]) ∧ Pt w0 w' g (markC c e (s.O e) (s.R (s.O e)) (s.P e) (s.E (s.R (s.O e)))) ∧ Kept (fun i => i = g) w w' := by
  obtain ⟨o1, o2, o3⟩ := hO.o e he
  obtain ⟨v1, v2, v3, v4⟩ := hO.iv _ o1
  obtain ⟨x1, x2⟩ := hO.ep (s.R (s.O e)) (by omega)
  have hn := hO.n1
  have hf := hO.few
  have hS := size_any g c w0 w hP
  rw [hL.n] at hS
  have hl := lacks_ok g e s.n w (by omega) (by omega)
  have c1 := hP.cell (i := 2002 + e) (by omega)
  rw [hL.o e he] at c1
  have c2 := hP.cell (i := 1002 + e) (by omega)
  rw [hL.p e he] at c2
  have c3 := hP.cell (i := 3002 + s.O e * 3 + 1) (by omega)
  rw [hL.r _ o1] at c3
  have c4 := hP.cell (i := 2 + s.R (s.O e)) (by omega)
  rw [hL.e _ (by omega)] at c4
  have k3 := hL.r _ o1
  have e0 : (0 : Int) ≤ (e : Int) := by omega
  have e1 : (e : Int) < 1000 := by omega
  have q0 : (0 : Int) ≤ (s.O e : Int) := by omega
  have q1 : (s.O e : Int) < 1000 := by omega
  have r0 : (0 : Int) ≤ (s.R (s.O e) : Int) := by omega
  have rw1 : IntKind.i64.wrap ((s.R (s.O e) : Int) + 1) = (s.R (s.O e) : Int) + 1 := by rw [IntKind.wrap_i64]; omega
  have r1 : (s.R (s.O e) : Int) < 1000 := by omega
  have m1 : ¬ (s.P e : Int) < (s.R (s.O e) : Int) := by omega
  have l1 : s.P e < 1000 := by have := (hO.pe e he).1; omega
  have l2 : s.R (s.O e) < 1000 := by omega
  have l3 : s.O e < 1000 := by omega
  have l4 : s.E (s.R (s.O e)) < 1000 := by omega
  have l5 : e < 1000 := by omega
  generalize s.E (s.R (s.O e)) = x at c4 l4 ⊢
  generalize s.n = n at hS hl
  generalize s.P e = pl at c2 m1 l1 ⊢
  generalize s.R (s.O e) = q at c3 m1 r0 r1 c4 k3 l2 rw1 ⊢
  generalize s.O e = o at c1 c3 q0 q1 k3 l3 ⊢
  have H : Hid _ := And.intro hS hl
  have d1 := (Below.refl w.heap.size w).drew
  have c1' := (d1.cell (World.block_lt_of_cell? w _ c1)).trans c1
  have c2' := (d1.cell (World.block_lt_of_cell? w _ c2)).trans c2
  have c3' := (d1.cell (World.block_lt_of_cell? w _ c3)).trans c3
  have c4' := (d1.cell (World.block_lt_of_cell? w _ c4)).trans c4
  have c3d := c3'
  have c4d := c4'
  have d2 := (Below.refl w.drew.heap.size w.drew).drew
  replace c3d := (d2.cell (World.block_lt_of_cell? w.drew _ c3d)).trans c3d
  replace c4d := (d2.cell (World.block_lt_of_cell? w.drew _ c4d)).trans c4d
  have hP2 : Pt w0 w.drew.drew g c := (hP.below d1).below d2
  have HP1 := put_any g c x pl w0 w.drew.drew hP2 l4 l1
  have hK2 : Kept (fun i => i = g) w w.drew.drew := (Kept.of_below d1).trans (Kept.of_below d2)
  have HD : Hid _ := And.intro HP1 (And.intro hK2 k3)
  clear hS hl hP hL hO he o1 o2 o3 hm hn hf d1 v1 v2 v3 v4 x1 x2 hP2 hK2 d2 HP1 k3
  go_enter Tryd.func8, Tryd.ntmps8
  go_wp2_with (first
    | (go_at_call 15; refine Calls.mono H.out.1 ?_; rintro r w1 ⟨rfl, hw1⟩; obtain rfl := hw1.symm; clear hw1)
    | (go_at_call 19; refine Calls.mono H.out.2 ?_; rintro r w1 ⟨rfl, hw1⟩; obtain rfl := hw1.symm; clear hw1))
  go_region
  go_wp2_with fail
  go_region_law
    ((first
      | (go_simp; go_at_call 20; refine HD.out.1.mono ?_; rintro r8 w8 ⟨rfl, hP8, hK8⟩; have c8 := hP8.cell (i := 3002 + o * 3 + 1) (by omega); rw [upd_ne _ _ (by omega), upd_ne _ _ (by omega), HD.out.2.2] at c8; have H8 : Hid _ := And.intro hP8 hK8; clear hP8 hK8)
      | fail))
  go_wp2_with (go_at_call 20; refine (put_any g _ e q w0 w8 H8.out.1 l5 l2).mono ?_; rintro r9 w9 ⟨rfl, hP9, hK9⟩; have c9 := hP9.cell (i := 3002 + o * 3 + 1) (by omega); rw [upd_ne _ _ (by omega), upd_ne _ _ (by omega), upd_ne _ _ (by omega), upd_ne _ _ (by omega), HD.out.2.2] at c9; have f9 := hP9.free (3002 + o * 3 + 1); have H9 : Hid _ := And.intro hP9 hK9; clear hP9 hK9)
  go_ret2
  refine ⟨rfl, H9.out.1.set _ _, ((HD.out.2.1.trans H8.out.2).trans H9.out.2).trans (Kept.setCell _ _ _ _)⟩
/-- Mark at an element: true just if it was not marked; it is from now on. -/
def Pst.mark1 (s : Pst) (e : Nat) : Pst := if s.P e < s.R (s.O e) then s else s.mark e
theorem mark_any (g : Nat) (c : Nat → Int) (s : Pst) (e : Nat) (w0 w : World) (hP : Pt w0 w g c) (hL : Lay c s) (hO : s.Ok) (he : e < s.n) :
    Calls Tryd.prog 8 #[.pointer (some ⟨g, 0, none⟩), .int .i64 e] w fun r w' => r = .returned (.tuple #[.bool (!s.isM e), .nilIface]) ∧ ∃ c' s', Pt w0 w' g c' ∧ Lay c' s' ∧ s'.Ok ∧ Kept (fun i => i = g) w w' ∧ s'.n = s.n ∧ s'.nb = s.nb ∧ s'.O = s.O ∧ s'.B = s.B ∧ s'.D = s.D ∧ ∀ y, y < s.n → s'.isM y = (decide (y = e) || s.isM y) := by
  by_cases hm : s.P e < s.R (s.O e)
  · refine (mark_old g c s e w0 w hP hL hO he hm).mono ?_
    rintro r w' ⟨rfl, hb⟩
    have h1 : s.isM e = true := decide_eq_true hm
    refine ⟨by rw [h1]; rfl, c, s, hP.below hb, hL, hO, Kept.of_below hb, rfl, rfl, rfl, rfl, rfl, fun y _ => ?_⟩
    by_cases e1 : y = e
    · subst e1; rw [h1]; simp
    · simp [e1]
  · have h1 : s.isM e = false := decide_eq_false hm
    obtain ⟨o1, o2, o3⟩ := hO.o e he
    obtain ⟨v1, v2, v3, v4⟩ := hO.iv _ o1
    have hn := hO.n1
    have hf := hO.few
    have x1 := (hO.ep (s.R (s.O e)) (by omega)).1
    have x2 := (hO.pe e he).1
    refine (mark_new g c s e w0 w hP hL hO he hm).mono ?_
    rintro r w' ⟨rfl, hP', hK⟩
    exact ⟨by rw [h1]; rfl, _, s.mark e, hP', markAt_lay hL hn (by omega) (by omega) (by omega) (by omega) (by omega), (mark_ok hO he hm).1, hK, rfl, rfl, rfl, rfl, rfl, (mark_ok hO he hm).2⟩
set_option maxHeartbeats 1000000 in
theorem mark_bad (g : Nat) (c : Nat → Int) (s : Pst) (e : Int) (a1 a3 : Addr) (w0 w : World) (hP : Pt w0 w g c) (hL : Lay c s) (hE : EnvR w a1 a3) (h : e < 0 ∨ (s.n : Int) ≤ e) :
    Calls Tryd.prog 8 #[.pointer (some ⟨g, 0, none⟩), .int .i64 e] w fun r w' => ∃ x, r = .returned (.tuple #[.bool false, x]) ∧ Chain w' 0 0 a3 [refB] x ∧ Below w.heap.size w w' := by
  have hS := size_any g c w0 w hP
  rw [hL.n] at hS
  have hl := lacks_bad g e s.n a1 a3 w hE h
  generalize s.n = n at hS hl
  have H : Hid _ := And.intro hS hl
  clear hS hl hP hL hE h
  go_enter Tryd.func8, Tryd.ntmps8
  go_wp2_with (first
    | (go_at_call 15; refine Calls.mono H.out.1 ?_; rintro r w1 ⟨rfl, hw1⟩; obtain rfl := hw1.symm; clear hw1)
    | (go_at_call 19; refine Calls.mono H.out.2 ?_; rintro r w1 ⟨x, rfl, hC, hb⟩; have HB : Hid _ := And.intro hC hb; obtain ⟨T, v, rfl⟩ := hC.iface; clear hC hb))
  go_ret2
  exact ⟨_, rfl, HB.out.1, HB.out.2⟩
end Go.Proofs.YthfnikglcpoioaaDoor
