/- refine: the statements' first call, whose answer the document fixes. -/
import Derived.Test.YthfnikglcpoioaaDoorRfSplit2
namespace Go.Proofs.YthfnikglcpoioaaDoor
open Go.RowKit Go.Maps
attribute [local go_sem ↓] Go.wp_at_zero Go.wp_at_succ
theorem split_nb (s : Pst) (b : Nat) : (s.split b).nb = if s.splits b then s.nb + 1 else s.nb := by
  unfold Pst.split
  by_cases h : s.splits b
  · rw [if_pos h, if_pos h]; split <;> rfl
  · rw [if_neg h, if_neg h]; rfl
theorem splits_of {s : Pst} (hO : s.Ok) {b x y : Nat} (hx : x < s.n) (hy : y < s.n) (ox : s.O x = b) (oy : s.O y = b) (mx : s.isM x = true) (my : s.isM y = false) : s.splits b := by
  have h1 := hO.o x hx
  have h2 := hO.o y hy
  have h3 := of_decide_eq_true mx
  have h4 := of_decide_eq_false my
  rw [ox] at h1 h3
  rw [oy] at h2 h4
  exact ⟨by omega, by omega⟩
theorem al_split (g : Nat) (c : Nat → Int) (s : Pst) (w0 w : World) (hP : Pt w0 w g c) (hL : Lay c s) (hO : s.Ok) (n2 : s.n = (Pst.new 5).n) (nb2 : s.nb = (Pst.new 5).nb) (o2 : s.O = (Pst.new 5).O) (m2 : ∀ y, y < (Pst.new 5).n → s.isM y = (decide (y = 1) || (Pst.new 5).isM y)) :
    Calls Tryd.prog 11 #[.pointer (some ⟨g, 0, none⟩), .int .i64 0] w fun r w' => r = .returned (.tuple #[.int .i64 1, .bool true, .nilIface]) ∧ ∃ c', Pt w0 w' g c' ∧ c' 1 = 2 := by
  have h5 : s.n = 5 := n2
  have h1 : s.nb = 1 := nb2
  have hsp : s.splits 0 := splits_of hO (x := 1) (y := 0) (by omega) (by omega) (by rw [o2]; rfl) (by rw [o2]; rfl) (by rw [m2 1 (by decide)]; rfl) (by rw [m2 0 (by decide)]; rfl)
  have h := split_any g c s 0 w0 w hP hL hO (by omega)
  rw [if_pos hsp, decide_eq_true hsp, h1] at h
  refine h.mono ?_
  rintro r w' ⟨rfl, c', hP', hL', _⟩
  refine ⟨rfl, c', hP', ?_⟩
  rw [hL'.nb, split_nb, if_pos hsp, h1]
  rfl
set_option maxRecDepth 100000 in
set_option maxHeartbeats 2000000 in
theorem alive8 (w : World) : Calls Tryd.prog 6 #[] w fun r w' => r = .returned (.bool true) ∧ Below w.heap.size w w' := by
  have hN := new_part 5 (by decide) w
  have HN : Hid _ := And.intro hN trivial
  clear hN
  go_enter Tryd.func6, Tryd.ntmps6
  go_wp2_with fail
  refine Calls.mono HN.out.1 ?_
  rintro r w1 ⟨g, c, rfl, hP, hL⟩
  have hO := Pst.new_ok (n := 5) (by decide)
  have hM := mark_any g c (Pst.new 5) 1 w w1 hP hL hO (by decide)
  have hM0 : (Pst.new 5).isM 1 = false := by decide
  rw [hM0] at hM
  have HM : Hid _ := And.intro hM trivial
  clear hM hP hL hO hM0 HN
  go_wp2_with (first
    | (go_at_call 8; refine Calls.mono HM.out.1 ?_; rintro r w2 ⟨rfl, c2, s2, hP2, hL2, hO2, hK2, n2, nb2, o2, b2, d2, m2⟩; have hS := al_split g c2 s2 w w2 hP2 hL2 hO2 n2 nb2 o2 m2; have HS : Hid _ := And.intro hS trivial; clear hS hP2 hL2 hO2 hK2 n2 nb2 o2 b2 d2 m2)
    | (go_at_call 11; refine Calls.mono HS.out.1 ?_; rintro r w3 ⟨rfl, c3, hP3, h3⟩; have hB := blocks_any g c3 w w3 hP3; rw [h3] at hB; have HB : Hid _ := And.intro hB hP3.bl; clear hB hP3 h3)
    | (go_at_call 13; refine Calls.mono HB.out.1 ?_; rintro r w4 ⟨rfl, hw4⟩; obtain rfl := hw4.symm; clear hw4))
  go_ret
  exact ⟨rfl, HB.out.2⟩
end Go.Proofs.YthfnikglcpoioaaDoor
