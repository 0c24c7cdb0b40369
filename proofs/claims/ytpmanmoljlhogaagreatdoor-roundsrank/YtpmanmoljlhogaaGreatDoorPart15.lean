/- Texts of this claim, joined: RoLawRank, ErLaid, RoLaid, SoPiv. -/
import Derived.Test.YtpmanmoljlhogaaGreatDoorPart11
import Derived.Test.YtpmanmoljlhogaaGreatDoorPart14
import Derived.Test.YtpmanmoljlhogaaGreatDoorPart8
import Derived.Test.YtpmanmoljlhogaaGreatDoorRows
import Derived.Test.YtpmanmoljlhogaaGreatDoorPart6
import Derived.Test.YtpmanmoljlhogaaGreatDoorErCode
import Derived.ProofKit
import Derived.LaidMore
import Derived.Stop.LaidErr
import Derived.Test.YtpmanmoljlhogaaGreatDoorPart2
import Derived.Lib.LaidTab
import Derived.Test.YtpmanmoljlhogaaGreatDoorPart9
/- RoundsRank as a call: for every system and all states the statement answers true. -/
namespace Go.Proofs.YtpmanmoljlhogaaGreatDoor
open Go.RowKit Go.Maps
attribute [local go_sem ↓] Go.wp_at_zero Go.wp_at_succ
theorem box_new (w : World) (a0 a1 a2 a3 : Value) (t : TypeId) : Below w.heap.size w (w.alloc (.cells #[a0, a1, a2, a3] t)) := (Below.refl _ _).alloc (Nat.le_refl _) _
set_option maxRecDepth 100000 in
set_option maxHeartbeats 4000000 in
theorem lawRank_out (n k s p q : Int) (v : Value) (es : List Sy.Ed) (w : World) (hA : PAl w) (hv : HasE w v es) (hli : lightB n es.length (Sy.right n k s es) = false) :
    Calls Tryz.prog 4 #[sysV n k s v, .int .i64 p, .int .i64 q] w fun r w' => r = .returned (.bool true) ∧ Below w.heap.size w w' := by
  have hvs := hv
  obtain ⟨ao, cap, rfl, hcap, hH⟩ := hvs
  obtain ⟨L, hL⟩ : ∃ L, L = es.length := ⟨_, rfl⟩
  obtain ⟨w1, hw1⟩ : ∃ w1, w1 = w.alloc (.cells #[.int .i64 n, .int .i64 k, .int .i64 s, .slice ao L cap] 24) := ⟨_, rfl⟩
  have hb1 : Below w.heap.size w w1 := by rw [hw1]; exact (Below.refl _ _).alloc (Nat.le_refl _) _
  have hg1 : w1.heap[w.heap.size]? = some (.cells #[.int .i64 n, .int .i64 k, .int .i64 s, .slice ao L cap] 24 (0, 0)) := by rw [hw1]; exact heap_alloc_new w _
  have hLt := light_any n k s _ es w1 (hH.below hb1)
  rw [hli] at hLt
  rw [← hL] at hLt ⊢
  unfold sysV at hLt ⊢
  have H1 : Hid _ := And.intro hw1 (And.intro hb1 (And.intro hLt hA))
  obtain ⟨x0, x1, x2, x3⟩ := four_cells hg1
  clear hA hv hH hcap hL hw1 hb1 hg1 hLt hli
  go_enter Tryz.func4, Tryz.ntmps4
  go_upto_region 1 with fail
  rw [← H1.out.1]
  go_wp2_with fail
  refine Calls.mono H1.out.2.2.1 ?_
  rintro r w2 ⟨rfl, hb2⟩
  have H2 : Hid (Below w.heap.size w w2) := bel6 hb2 H1.out.2.1
  clear hb2
  go_wp2_with fail
  refine Calls.mono (H1.out.2.2.2 _ H2.out) ?_
  rintro r w3 ⟨rfl, hb3⟩
  have H3 : Hid (Below w.heap.size w w3) := bel6 hb3 H2.out
  clear hb3
  go_wp2_with fail
  go_ret
  exact ⟨rfl, H3.out⟩
set_option maxRecDepth 100000 in
set_option maxHeartbeats 8000000 in
theorem lawRank_bad (hS : SortOk 1000000) (n k s p q : Int) (v : Value) (es : List Sy.Ed) (e : Nat → Addr) (w : World) (hA : PAl w) (hE : Er 19 w e) (hv : HasE w v es) (hlen : es.length ≤ 11000) (hq : Sy.right n k s es = false) (hli : lightB n es.length (Sy.right n k s es) = true)  :
    Calls Tryz.prog 4 #[sysV n k s v, .int .i64 p, .int .i64 q] w fun r w' => r = .returned (.bool true) ∧ Below w.heap.size w w' := by
  have hvs := hv
  obtain ⟨ao, cap, rfl, hcap, hH⟩ := hvs
  obtain ⟨L, hL⟩ : ∃ L, L = es.length := ⟨_, rfl⟩
  obtain ⟨w1, hw1⟩ : ∃ w1, w1 = w.alloc (.cells #[.int .i64 n, .int .i64 k, .int .i64 s, .slice ao L cap] 24) := ⟨_, rfl⟩
  have hb1 : Below w.heap.size w w1 := by rw [hw1]; exact (Below.refl _ _).alloc (Nat.le_refl _) _
  have hg1 : w1.heap[w.heap.size]? = some (.cells #[.int .i64 n, .int .i64 k, .int .i64 s, .slice ao L cap] 24 (0, 0)) := by rw [hw1]; exact heap_alloc_new w _
  have hLt := light_any n k s _ es w1 (hH.below hb1)
  rw [hli] at hLt
  have hRk := fun W (hb : Below w1.heap.size w1 W) => rank_bad hS n k s p q _ es e W ((hE.below hb1).below hb) ((hH.below hb1).below hb) (by omega) hq
  have hHd := fun W (hb : Below w1.heap.size w1 W) => handed_rnd n k s _ es W ((hH.below hb1).below hb)
  rw [hq] at hHd
  rw [← hL] at hLt hRk hHd ⊢
  unfold sysV at hLt hRk hHd ⊢
  have H1 : Hid _ := And.intro hw1 (And.intro hb1 (And.intro hLt (And.intro hA (And.intro hRk (And.intro hHd (And.intro hE hg1))))))
  obtain ⟨x0, x1, x2, x3⟩ := four_cells hg1
  clear hA hE hv hH hcap hL hw1 hb1 hg1 hLt hRk hHd hli hq hlen
  go_enter Tryz.func4, Tryz.ntmps4
  go_upto_region 1 with fail
  rw [← H1.out.1]
  go_wp2_with fail
  refine Calls.mono H1.out.2.2.1 ?_
  rintro r w2 ⟨rfl, hb2⟩
  clear x0 x1 x2 x3
  obtain ⟨x0, x1, x2, x3⟩ := four_cells (res_up6 hb2 H1.out.2.2.2.2.2.2.2)
  have H2 : Hid (Below w1.heap.size w1 w2) := hb2
  clear hb2
  go_wp2_with fail
  refine Calls.mono (H1.out.2.2.2.2.1 _ H2.out) ?_
  rintro r w3 ⟨bx, rfl, hC3, hb3⟩
  have HC : Hid _ := And.intro hC3 trivial
  clear hC3
  have hb13 := bel6 hb3 H2.out
  clear x0 x1 x2 x3
  obtain ⟨x0, x1, x2, x3⟩ := four_cells (res_up6 hb13 H1.out.2.2.2.2.2.2.2)
  have H3 : Hid (Below w1.heap.size w1 w3) := hb13
  clear hb3 hb13
  go_wp2_with fail
  refine Calls.mono (H1.out.2.2.2.2.2.1 _ H3.out) ?_
  rintro r w4 ⟨rfl, hb4⟩
  have hb14 := bel6 hb4 H3.out
  rw [show hndV false = .agg #[.int .i64 14, .int .i64 0, .int .i64 0, .string rndB2] from rfl]
  have H4 : Hid _ := And.intro hb4 hb14
  clear hb4 hb14 x0 x1 x2 x3
  go_upto_region 5 with fail
  obtain ⟨w5, hw5⟩ : ∃ w5, w5 = w4.alloc (.cells #[.int .i64 14, .int .i64 0, .int .i64 0, .string rndB2] 42) := ⟨_, rfl⟩
  have hb5 : Below w4.heap.size w4 w5 := by rw [hw5]; exact box_new _ _ _ _ _ _
  have hg5 : w5.heap[w4.heap.size]? = some (.cells #[.int .i64 14, .int .i64 0, .int .i64 0, .string rndB2] 42 (0, 0)) := by rw [hw5]; exact heap_alloc_new w4 _
  rw [← hw5]
  obtain ⟨y0, y1, y2, y3⟩ := four_cells hg5
  obtain ⟨x0, x1, x2, x3⟩ := four_cells (res_up6 (bel6 hb5 H4.out.2) H1.out.2.2.2.2.2.2.2)
  have H5 : Hid _ := And.intro (bel6 hb5 H4.out.2) (And.intro (bel6 hb5 H4.out.1) hg5)
  clear hb5 hg5 hw5
  go_wp2_with fail
  refine Calls.mono (H1.out.2.2.2.1 _ (bel6 H5.out.1 H1.out.2.1)) ?_
  rintro r w6 ⟨rfl, hb6⟩
  have hb16 := bel6 hb6 H5.out.1
  have hT := told_chain 14 (by decide) (by decide) (by decide) _ _ 0 0 e w6 ((H1.out.2.2.2.2.2.2.1.below H1.out.2.1).below hb16) (HC.out.1.below (bel6 hb6 H5.out.2.1)) (by decide) (by decide)
  rw [rnd_join2] at hT
  clear x0 x1 x2 x3 y0 y1 y2 y3
  obtain ⟨y0, y1, y2, y3⟩ := four_cells (res_up6 hb6 H5.out.2.2)
  have H6 : Hid _ := And.intro hT hb16
  clear hT hb6 hb16
  go_wp2_with fail
  refine Calls.mono H6.out.1 ?_
  rintro r w7 ⟨rfl, hb7⟩
  have H7 : Hid (Below w.heap.size w w7) := bel6 (bel6 hb7 H6.out.2) H1.out.2.1
  clear hb7
  go_wp2_with fail
  go_ret
  exact ⟨rfl, H7.out⟩
set_option maxRecDepth 100000 in
set_option maxHeartbeats 8000000 in
theorem lawRank_idx (hS : SortOk 1000000) (m : Nat) (k s p q : Int) (v : Value) (es : List Sy.Ed) (e : Nat → Addr) (w : World) (hA : PAl w) (hE : Er 19 w e) (hv : HasE w v es) (hlen : es.length ≤ 11000) (hq : Sy.right m k s es = true) (hli : lightB m es.length (Sy.right m k s es) = true) (hno : min p q < 0 ∨ (m : Int) ≤ max p q) :
    Calls Tryz.prog 4 #[sysV m k s v, .int .i64 p, .int .i64 q] w fun r w' => r = .returned (.bool true) ∧ Below w.heap.size w w' := by
  have hvs := hv
  obtain ⟨ao, cap, rfl, hcap, hH⟩ := hvs
  obtain ⟨L, hL⟩ : ∃ L, L = es.length := ⟨_, rfl⟩
  obtain ⟨w1, hw1⟩ : ∃ w1, w1 = w.alloc (.cells #[.int .i64 m, .int .i64 k, .int .i64 s, .slice ao L cap] 24) := ⟨_, rfl⟩
  have hb1 : Below w.heap.size w w1 := by rw [hw1]; exact (Below.refl _ _).alloc (Nat.le_refl _) _
  have hg1 : w1.heap[w.heap.size]? = some (.cells #[.int .i64 m, .int .i64 k, .int .i64 s, .slice ao L cap] 24 (0, 0)) := by rw [hw1]; exact heap_alloc_new w _
  have hLt := light_any m k s _ es w1 (hH.below hb1)
  rw [hli] at hLt
  have hRk := fun W (hb : Below w1.heap.size w1 W) => rank_idx hS m k s p q _ es e W ((hE.below hb1).below hb) ((hH.below hb1).below hb) (by omega) hq hno
  have hHd := fun W (hb : Below w1.heap.size w1 W) => handed_rnd m k s _ es W ((hH.below hb1).below hb)
  rw [hq] at hHd
  rw [← hL] at hLt hRk hHd ⊢
  unfold sysV at hLt hRk hHd ⊢
  have H1 : Hid _ := And.intro hw1 (And.intro hb1 (And.intro hLt (And.intro hA (And.intro hRk (And.intro hHd (And.intro hE hg1))))))
  obtain ⟨x0, x1, x2, x3⟩ := four_cells hg1
  clear hA hE hv hH hcap hL hw1 hb1 hg1 hLt hRk hHd hli hq hlen
  go_enter Tryz.func4, Tryz.ntmps4
  go_upto_region 1 with fail
  rw [← H1.out.1]
  go_wp2_with fail
  refine Calls.mono H1.out.2.2.1 ?_
  rintro r w2 ⟨rfl, hb2⟩
  clear x0 x1 x2 x3
  obtain ⟨x0, x1, x2, x3⟩ := four_cells (res_up6 hb2 H1.out.2.2.2.2.2.2.2)
  have H2 : Hid (Below w1.heap.size w1 w2) := hb2
  clear hb2
  go_wp2_with fail
  refine Calls.mono (H1.out.2.2.2.2.1 _ H2.out) ?_
  rintro r w3 ⟨bx, rfl, hC3, hb3⟩
  have HC : Hid _ := And.intro hC3 trivial
  clear hC3
  have hb13 := bel6 hb3 H2.out
  clear x0 x1 x2 x3
  obtain ⟨x0, x1, x2, x3⟩ := four_cells (res_up6 hb13 H1.out.2.2.2.2.2.2.2)
  have H3 : Hid (Below w1.heap.size w1 w3) := hb13
  clear hb3 hb13
  go_wp2_with fail
  refine Calls.mono (H1.out.2.2.2.2.2.1 _ H3.out) ?_
  rintro r w4 ⟨rfl, hb4⟩
  have hb14 := bel6 hb4 H3.out
  rw [show hndV true = .agg #[.int .i64 0, .int .i64 0, .int .i64 0, .string ⟨#[]⟩] from rfl]
  have H4 : Hid _ := And.intro hb4 hb14
  clear hb4 hb14 x0 x1 x2 x3
  go_upto_region 5 with fail
  obtain ⟨w5, hw5⟩ : ∃ w5, w5 = w4.alloc (.cells #[.int .i64 0, .int .i64 0, .int .i64 0, .string ⟨#[]⟩] 42) := ⟨_, rfl⟩
  have hb5 : Below w4.heap.size w4 w5 := by rw [hw5]; exact box_new _ _ _ _ _ _
  have hg5 : w5.heap[w4.heap.size]? = some (.cells #[.int .i64 0, .int .i64 0, .int .i64 0, .string ⟨#[]⟩] 42 (0, 0)) := by rw [hw5]; exact heap_alloc_new w4 _
  rw [← hw5]
  obtain ⟨y0, y1, y2, y3⟩ := four_cells hg5
  obtain ⟨x0, x1, x2, x3⟩ := four_cells (res_up6 (bel6 hb5 H4.out.2) H1.out.2.2.2.2.2.2.2)
  have H5 : Hid _ := And.intro (bel6 hb5 H4.out.2) (And.intro (bel6 hb5 H4.out.1) hg5)
  clear hb5 hg5 hw5
  have z0 := blk_free H5.out.2.2 0
  have z1 := blk_free H5.out.2.2 1
  have z2 := blk_free H5.out.2.2 2
  have z3 := blk_free H5.out.2.2 3
  have hno2 : p < 0 ∨ (0 ≤ p ∧ (m : Int) ≤ p) ∨ (0 ≤ p ∧ p < (m : Int) ∧ q < 0) ∨ (0 ≤ p ∧ p < (m : Int) ∧ 0 ≤ q ∧ (m : Int) ≤ q) := by omega
  clear hno
  rcases hno2 with h1 | ⟨h1, h2⟩ | ⟨h1, h2, h3⟩ | ⟨h1, h2, h3, h4⟩
  · have g1 : decide (p < 0) = true := decide_eq_true h1
    clear h1
    go_wp2_with fail
    refine Calls.mono (badRnd 3 w5) ?_
    rintro r w8 ⟨rfl, hb8⟩
    have hg8 := res_up6 hb8 H5.out.2.2
    clear x0 x1 x2 x3 y0 y1 y2 y3 z0 z1 z2 z3
    have z0 := blk_free hg8 0
    have z1 := blk_free hg8 1
    have z2 := blk_free hg8 2
    have z3 := blk_free hg8 3
    obtain ⟨y0, y1, y2, y3⟩ := four_cells hg8
    have H8 : Hid _ := And.intro hb8 hg8
    clear hb8 hg8
    go_upto_region 7 with fail
    have hg9 := four_set (a0 := .int .i64 3) (a1 := .int .i64 0) (a2 := .int .i64 0) (a3 := .string rndB1) H8.out.2
    have hb9 := four_below (bel6 H8.out.1 H5.out.2.1) (b := w4.heap.size) H4.out.1.size (.int .i64 3) (.int .i64 0) (.int .i64 0) (.string rndB1)
    generalize ((((w8.setCell ⟨w4.heap.size, 0, none⟩ (.int .i64 3)).setCell ⟨w4.heap.size, 1, none⟩ (.int .i64 0)).setCell ⟨w4.heap.size, 2, none⟩ (.int .i64 0)).setCell ⟨w4.heap.size, 3, none⟩ (.string rndB1)) = w9 at hg9 hb9 ⊢
    clear y0 y1 y2 y3 z0 z1 z2 z3
    obtain ⟨y0, y1, y2, y3⟩ := four_cells hg9
    obtain ⟨x0, x1, x2, x3⟩ := four_cells (res_up6 (bel6 hb9 H3.out) H1.out.2.2.2.2.2.2.2)
    have H9 : Hid _ := And.intro hb9 hg9
    clear hb9 hg9
    go_wp2_with fail
    refine Calls.mono (H1.out.2.2.2.1 _ (bel6 (bel6 H9.out.1 H3.out) H1.out.2.1)) ?_
    rintro r w6 ⟨rfl, hb6⟩
    have hb16 := bel6 hb6 (bel6 H9.out.1 H3.out)
    have hT := told_chain 3 (by decide) (by decide) (by decide) _ _ 0 0 e w6 ((H1.out.2.2.2.2.2.2.1.below H1.out.2.1).below hb16) (HC.out.1.below (bel6 hb6 H9.out.1)) (by decide) (by decide)
    rw [rnd_join1] at hT
    clear x0 x1 x2 x3 y0 y1 y2 y3
    obtain ⟨y0, y1, y2, y3⟩ := four_cells (res_up6 hb6 H9.out.2)
    have H6 : Hid _ := And.intro hT hb16
    clear hT hb6 hb16
    go_wp2_with fail
    refine Calls.mono H6.out.1 ?_
    rintro r w7 ⟨rfl, hb7⟩
    have H7 : Hid (Below w.heap.size w w7) := bel6 (bel6 hb7 H6.out.2) H1.out.2.1
    clear hb7
    go_wp2_with fail
    go_ret
    exact ⟨rfl, H7.out⟩
  · have g1 : decide (p < 0) = false := decide_eq_false (by omega)
    have g2 : decide ((m : Int) ≤ p) = true := decide_eq_true h2
    clear h1 h2
    go_wp2_with fail
    refine Calls.mono (badRnd 3 w5) ?_
    rintro r w8 ⟨rfl, hb8⟩
    have hg8 := res_up6 hb8 H5.out.2.2
    clear x0 x1 x2 x3 y0 y1 y2 y3 z0 z1 z2 z3
    have z0 := blk_free hg8 0
    have z1 := blk_free hg8 1
    have z2 := blk_free hg8 2
    have z3 := blk_free hg8 3
    obtain ⟨y0, y1, y2, y3⟩ := four_cells hg8
    have H8 : Hid _ := And.intro hb8 hg8
    clear hb8 hg8
    go_upto_region 7 with fail
    have hg9 := four_set (a0 := .int .i64 3) (a1 := .int .i64 0) (a2 := .int .i64 0) (a3 := .string rndB1) H8.out.2
    have hb9 := four_below (bel6 H8.out.1 H5.out.2.1) (b := w4.heap.size) H4.out.1.size (.int .i64 3) (.int .i64 0) (.int .i64 0) (.string rndB1)
    generalize ((((w8.setCell ⟨w4.heap.size, 0, none⟩ (.int .i64 3)).setCell ⟨w4.heap.size, 1, none⟩ (.int .i64 0)).setCell ⟨w4.heap.size, 2, none⟩ (.int .i64 0)).setCell ⟨w4.heap.size, 3, none⟩ (.string rndB1)) = w9 at hg9 hb9 ⊢
    clear y0 y1 y2 y3 z0 z1 z2 z3
    obtain ⟨y0, y1, y2, y3⟩ := four_cells hg9
    obtain ⟨x0, x1, x2, x3⟩ := four_cells (res_up6 (bel6 hb9 H3.out) H1.out.2.2.2.2.2.2.2)
    have H9 : Hid _ := And.intro hb9 hg9
    clear hb9 hg9
    go_wp2_with fail
    refine Calls.mono (H1.out.2.2.2.1 _ (bel6 (bel6 H9.out.1 H3.out) H1.out.2.1)) ?_
    rintro r w6 ⟨rfl, hb6⟩
    have hb16 := bel6 hb6 (bel6 H9.out.1 H3.out)
    have hT := told_chain 3 (by decide) (by decide) (by decide) _ _ 0 0 e w6 ((H1.out.2.2.2.2.2.2.1.below H1.out.2.1).below hb16) (HC.out.1.below (bel6 hb6 H9.out.1)) (by decide) (by decide)
    rw [rnd_join1] at hT
    clear x0 x1 x2 x3 y0 y1 y2 y3
    obtain ⟨y0, y1, y2, y3⟩ := four_cells (res_up6 hb6 H9.out.2)
    have H6 : Hid _ := And.intro hT hb16
    clear hT hb6 hb16
    go_wp2_with fail
    refine Calls.mono H6.out.1 ?_
    rintro r w7 ⟨rfl, hb7⟩
    have H7 : Hid (Below w.heap.size w w7) := bel6 (bel6 hb7 H6.out.2) H1.out.2.1
    clear hb7
    go_wp2_with fail
    go_ret
    exact ⟨rfl, H7.out⟩
  · have g1 : decide (p < 0) = false := decide_eq_false (by omega)
    have g2 : decide ((m : Int) ≤ p) = false := decide_eq_false (by omega)
    have g3 : decide (q < 0) = true := decide_eq_true h3
    clear h1 h2 h3
    go_wp2_with fail
    refine Calls.mono (badRnd 3 w5) ?_
    rintro r w8 ⟨rfl, hb8⟩
    have hg8 := res_up6 hb8 H5.out.2.2
    clear x0 x1 x2 x3 y0 y1 y2 y3 z0 z1 z2 z3
    have z0 := blk_free hg8 0
    have z1 := blk_free hg8 1
    have z2 := blk_free hg8 2
    have z3 := blk_free hg8 3
    obtain ⟨y0, y1, y2, y3⟩ := four_cells hg8
    have H8 : Hid _ := And.intro hb8 hg8
    clear hb8 hg8
    go_upto_region 7 with fail
    have hg9 := four_set (a0 := .int .i64 3) (a1 := .int .i64 0) (a2 := .int .i64 0) (a3 := .string rndB1) H8.out.2
    have hb9 := four_below (bel6 H8.out.1 H5.out.2.1) (b := w4.heap.size) H4.out.1.size (.int .i64 3) (.int .i64 0) (.int .i64 0) (.string rndB1)
    generalize ((((w8.setCell ⟨w4.heap.size, 0, none⟩ (.int .i64 3)).setCell ⟨w4.heap.size, 1, none⟩ (.int .i64 0)).setCell ⟨w4.heap.size, 2, none⟩ (.int .i64 0)).setCell ⟨w4.heap.size, 3, none⟩ (.string rndB1)) = w9 at hg9 hb9 ⊢
    clear y0 y1 y2 y3 z0 z1 z2 z3
    obtain ⟨y0, y1, y2, y3⟩ := four_cells hg9
    obtain ⟨x0, x1, x2, x3⟩ := four_cells (res_up6 (bel6 hb9 H3.out) H1.out.2.2.2.2.2.2.2)
    have H9 : Hid _ := And.intro hb9 hg9
    clear hb9 hg9
    go_wp2_with fail
    refine Calls.mono (H1.out.2.2.2.1 _ (bel6 (bel6 H9.out.1 H3.out) H1.out.2.1)) ?_
    rintro r w6 ⟨rfl, hb6⟩
    have hb16 := bel6 hb6 (bel6 H9.out.1 H3.out)
    have hT := told_chain 3 (by decide) (by decide) (by decide) _ _ 0 0 e w6 ((H1.out.2.2.2.2.2.2.1.below H1.out.2.1).below hb16) (HC.out.1.below (bel6 hb6 H9.out.1)) (by decide) (by decide)
    rw [rnd_join1] at hT
    clear x0 x1 x2 x3 y0 y1 y2 y3
    obtain ⟨y0, y1, y2, y3⟩ := four_cells (res_up6 hb6 H9.out.2)
    have H6 : Hid _ := And.intro hT hb16
    clear hT hb6 hb16
    go_wp2_with fail
    refine Calls.mono H6.out.1 ?_
    rintro r w7 ⟨rfl, hb7⟩
    have H7 : Hid (Below w.heap.size w w7) := bel6 (bel6 hb7 H6.out.2) H1.out.2.1
    clear hb7
    go_wp2_with fail
    go_ret
    exact ⟨rfl, H7.out⟩
  · have g1 : decide (p < 0) = false := decide_eq_false (by omega)
    have g2 : decide ((m : Int) ≤ p) = false := decide_eq_false (by omega)
    have g3 : decide (q < 0) = false := decide_eq_false (by omega)
    have g4 : decide ((m : Int) ≤ q) = true := decide_eq_true h4
    clear h1 h2 h3 h4
    go_wp2_with fail
    refine Calls.mono (badRnd 3 w5) ?_
    rintro r w8 ⟨rfl, hb8⟩
    have hg8 := res_up6 hb8 H5.out.2.2
    clear x0 x1 x2 x3 y0 y1 y2 y3 z0 z1 z2 z3
    have z0 := blk_free hg8 0
    have z1 := blk_free hg8 1
    have z2 := blk_free hg8 2
    have z3 := blk_free hg8 3
    obtain ⟨y0, y1, y2, y3⟩ := four_cells hg8
    have H8 : Hid _ := And.intro hb8 hg8
    clear hb8 hg8
    go_upto_region 7 with fail
    have hg9 := four_set (a0 := .int .i64 3) (a1 := .int .i64 0) (a2 := .int .i64 0) (a3 := .string rndB1) H8.out.2
    have hb9 := four_below (bel6 H8.out.1 H5.out.2.1) (b := w4.heap.size) H4.out.1.size (.int .i64 3) (.int .i64 0) (.int .i64 0) (.string rndB1)
    generalize ((((w8.setCell ⟨w4.heap.size, 0, none⟩ (.int .i64 3)).setCell ⟨w4.heap.size, 1, none⟩ (.int .i64 0)).setCell ⟨w4.heap.size, 2, none⟩ (.int .i64 0)).setCell ⟨w4.heap.size, 3, none⟩ (.string rndB1)) = w9 at hg9 hb9 ⊢
    clear y0 y1 y2 y3 z0 z1 z2 z3
    obtain ⟨y0, y1, y2, y3⟩ := four_cells hg9
    obtain ⟨x0, x1, x2, x3⟩ := four_cells (res_up6 (bel6 hb9 H3.out) H1.out.2.2.2.2.2.2.2)
    have H9 : Hid _ := And.intro hb9 hg9
    clear hb9 hg9
    go_wp2_with fail
    refine Calls.mono (H1.out.2.2.2.1 _ (bel6 (bel6 H9.out.1 H3.out) H1.out.2.1)) ?_
    rintro r w6 ⟨rfl, hb6⟩
    have hb16 := bel6 hb6 (bel6 H9.out.1 H3.out)
    have hT := told_chain 3 (by decide) (by decide) (by decide) _ _ 0 0 e w6 ((H1.out.2.2.2.2.2.2.1.below H1.out.2.1).below hb16) (HC.out.1.below (bel6 hb6 H9.out.1)) (by decide) (by decide)
    rw [rnd_join1] at hT
    clear x0 x1 x2 x3 y0 y1 y2 y3
    obtain ⟨y0, y1, y2, y3⟩ := four_cells (res_up6 hb6 H9.out.2)
    have H6 : Hid _ := And.intro hT hb16
    clear hT hb6 hb16
    go_wp2_with fail
    refine Calls.mono H6.out.1 ?_
    rintro r w7 ⟨rfl, hb7⟩
    have H7 : Hid (Below w.heap.size w w7) := bel6 (bel6 hb7 H6.out.2) H1.out.2.1
    clear hb7
    go_wp2_with fail
    go_ret
    exact ⟨rfl, H7.out⟩
set_option maxRecDepth 100000 in
set_option maxHeartbeats 8000000 in
theorem lawRank_ok (hS : SortOk 1000000) (m p q : Nat) (k s : Int) (v : Value) (es : List Sy.Ed) (e : Nat → Addr) (w : World) (hA : PAl w) (hE : Er 19 w e) (hP : Pow w) (hv : HasE w v es) (hlen : es.length ≤ 11000) (hq : Sy.right m k s es = true) (hli : lightB m es.length (Sy.right m k s es) = true) (hp : p < m) (hq2 : q < m) :
    Calls Tryz.prog 4 #[sysV m k s v, .int .i64 p, .int .i64 q] w fun r w' => r = .returned (.bool true) ∧ Below w.heap.size w w' := by
  have hvs := hv
  obtain ⟨ao, cap, rfl, hcap, hH⟩ := hvs
  obtain ⟨L, hL⟩ : ∃ L, L = es.length := ⟨_, rfl⟩
  obtain ⟨w1, hw1⟩ : ∃ w1, w1 = w.alloc (.cells #[.int .i64 m, .int .i64 k, .int .i64 s, .slice ao L cap] 24) := ⟨_, rfl⟩
  have hb1 : Below w.heap.size w w1 := by rw [hw1]; exact (Below.refl _ _).alloc (Nat.le_refl _) _
  have hg1 : w1.heap[w.heap.size]? = some (.cells #[.int .i64 m, .int .i64 k, .int .i64 s, .slice ao L cap] 24 (0, 0)) := by rw [hw1]; exact heap_alloc_new w _
  have hLt := light_any m k s _ es w1 (hH.below hb1)
  rw [hli] at hLt
  have hRk := fun W (hb : Below w1.heap.size w1 W) => rank_ok hS m p q k s _ es e W ((hE.below hb1).below hb).toR ((hP.below hb1).below hb) ((hH.below hb1).below hb) (by omega) hq hp hq2
  have hHd := fun W (hb : Below w1.heap.size w1 W) => handed_rnd m k s _ es W ((hH.below hb1).below hb)
  rw [hq] at hHd
  have hRd := fun W (hb : Below w1.heap.size w1 W) => docRounds_any m k s _ es W ((hv.below hb1).below hb) hq
  rw [← hL] at hRd
  unfold sysV at hRd
  have HRd : Hid _ := And.intro hRd trivial
  have hm1 : m ≤ 1000 := by have := (right_parts hq).1; omega
  clear hRd
  rw [← hL] at hLt hRk hHd ⊢
  unfold sysV at hLt hRk hHd ⊢
  have H1 : Hid _ := And.intro hw1 (And.intro hb1 (And.intro hLt (And.intro hA (And.intro hRk (And.intro hHd (And.intro hE hg1))))))
  obtain ⟨x0, x1, x2, x3⟩ := four_cells hg1
  clear hA hE hP hv hH hcap hL hw1 hb1 hg1 hLt hRk hHd hli hq hlen
  go_enter Tryz.func4, Tryz.ntmps4
  go_upto_region 1 with fail
  rw [← H1.out.1]
  go_wp2_with fail
  refine Calls.mono H1.out.2.2.1 ?_
  rintro r w2 ⟨rfl, hb2⟩
  clear x0 x1 x2 x3
  obtain ⟨x0, x1, x2, x3⟩ := four_cells (res_up6 hb2 H1.out.2.2.2.2.2.2.2)
  have H2 : Hid (Below w1.heap.size w1 w2) := hb2
  clear hb2
  go_wp2_with fail
  refine Calls.mono (H1.out.2.2.2.2.1 _ H2.out) ?_
  rintro r w3 ⟨R, hRl, rfl, hb3⟩
  obtain ⟨rk, hrk⟩ : ∃ rk, rk = Ro.rank m (outOf m es) R p q := ⟨_, rfl⟩
  rw [← hrk]
  have HC : Hid _ := And.intro hRl hrk
  clear hRl hrk
  have hb13 := bel6 hb3 H2.out
  clear x0 x1 x2 x3
  obtain ⟨x0, x1, x2, x3⟩ := four_cells (res_up6 hb13 H1.out.2.2.2.2.2.2.2)
  have H3 : Hid (Below w1.heap.size w1 w3) := hb13
  clear hb3 hb13
  go_wp2_with fail
  refine Calls.mono (H1.out.2.2.2.2.2.1 _ H3.out) ?_
  rintro r w4 ⟨rfl, hb4⟩
  have hb14 := bel6 hb4 H3.out
  rw [show hndV true = .agg #[.int .i64 0, .int .i64 0, .int .i64 0, .string ⟨#[]⟩] from rfl]
  have H4 : Hid _ := And.intro hb4 hb14
  clear hb4 hb14 x0 x1 x2 x3
  go_upto_region 5 with fail
  obtain ⟨w5, hw5⟩ : ∃ w5, w5 = w4.alloc (.cells #[.int .i64 0, .int .i64 0, .int .i64 0, .string ⟨#[]⟩] 42) := ⟨_, rfl⟩
  have hb5 : Below w4.heap.size w4 w5 := by rw [hw5]; exact box_new _ _ _ _ _ _
  have hg5 : w5.heap[w4.heap.size]? = some (.cells #[.int .i64 0, .int .i64 0, .int .i64 0, .string ⟨#[]⟩] 42 (0, 0)) := by rw [hw5]; exact heap_alloc_new w4 _
  rw [← hw5]
  obtain ⟨y0, y1, y2, y3⟩ := four_cells hg5
  obtain ⟨x0, x1, x2, x3⟩ := four_cells (res_up6 (bel6 hb5 H4.out.2) H1.out.2.2.2.2.2.2.2)
  have H5 : Hid _ := And.intro (bel6 hb5 H4.out.2) (And.intro (bel6 hb5 H4.out.1) hg5)
  clear hb5 hg5 hw5
  have g1 : decide ((p : Int) < 0) = false := decide_eq_false (by omega)
  have g2 : decide ((m : Int) ≤ (p : Int)) = false := decide_eq_false (by omega)
  have g3 : decide ((q : Int) < 0) = false := decide_eq_false (by omega)
  have g4 : decide ((m : Int) ≤ (q : Int)) = false := decide_eq_false (by omega)
  have g5 : decide (m ≤ p) = false := decide_eq_false (by omega)
  have g6 : decide (m ≤ q) = false := decide_eq_false (by omega)
  have HPQ : Hid _ := And.intro hp hq2
  clear hp hq2
  go_wp2_with fail
  refine Calls.mono (H1.out.2.2.2.1 _ (bel6 H5.out.1 H1.out.2.1)) ?_
  rintro r w6 ⟨rfl, hb6⟩
  have hb16 := bel6 hb6 H5.out.1
  clear x0 x1 x2 x3 y0 y1 y2 y3
  obtain ⟨x0, x1, x2, x3⟩ := four_cells (res_up6 hb16 H1.out.2.2.2.2.2.2.2)
  have H6 : Hid (Below w1.heap.size w1 w6) := hb16
  clear hb6 hb16
  go_wp2_with fail
  refine Calls.mono (HRd.out.1 _ H6.out) ?_
  rintro r w7 ⟨u, xs, R2, rfl, hRl2, hxl, hO7, hW7, hb7⟩
  have hRe : R2 = R := hRl2.unique HC.out.1
  rw [hRe] at hxl
  have hDk := docRank_any m p q R (outOf m es) u xs _ _ w7 hm1 HC.out.1 hxl hO7 hW7 HPQ.out.1 HPQ.out.2
  rw [← HC.out.2] at hDk
  have H7 : Hid _ := And.intro hDk (bel6 hb7 H6.out)
  clear hDk hb7 hO7 hW7 hxl hRe hRl2 x0 x1 x2 x3
  have hee : (rk == rk) = true := by simp
  go_wp2_with fail
  refine Calls.mono H7.out.1 ?_
  rintro r w8 ⟨rfl, hb8⟩
  have H8 : Hid (Below w.heap.size w w8) := bel6 (bel6 hb8 H7.out.2) H1.out.2.1
  clear hb8
  go_wp2_with fail
  go_ret
  exact ⟨rfl, H8.out⟩
theorem lawRank_any (hS : SortOk 1000000) (n k s p q : Int) (v : Value) (es : List Sy.Ed) (e : Nat → Addr) (w : World) (hE : Er 19 w e) (hP : Pow w) (hv : HasE w v es) :
    Calls Tryz.prog 4 #[sysV n k s v, .int .i64 p, .int .i64 q] w fun r w' => r = .returned (.bool true) ∧ Below w.heap.size w w' := by
  have hA := pAl hS e w hE.toR hP
  cases hli : lightB n es.length (Sy.right n k s es) with
  | false => exact lawRank_out n k s p q v es w hA hv hli
  | true =>
    have hlen : es.length ≤ 11000 := by
      unfold lightB at hli
      simp only [Bool.or_eq_true, Bool.and_eq_true, decide_eq_true_eq] at hli
      omega
    cases hq : Sy.right n k s es with
    | false => exact lawRank_bad hS n k s p q v es e w hA hE hv hlen hq hli
    | true =>
      obtain ⟨m, rfl⟩ : ∃ m : Nat, n = (m : Int) := ⟨n.toNat, by have := (right_parts hq).1; omega⟩
      by_cases hno : min p q < 0 ∨ (m : Int) ≤ max p q
      · exact lawRank_idx hS m k s p q v es e w hA hE hv hlen hq hli hno
      · obtain ⟨p', rfl⟩ : ∃ p' : Nat, p = (p' : Int) := ⟨p.toNat, by omega⟩
        obtain ⟨q', rfl⟩ : ∃ q' : Nat, q = (q' : Int) := ⟨q.toNat, by omega⟩
        exact lawRank_ok hS m p' q' k s v es e w hA hE hP hv hlen hq hli (by omega) (by omega)
end Go.Proofs.YtpmanmoljlhogaaGreatDoor
/- What the listed package variables give: api's errors lie in memory, each at an address of its own, whichever are listed. (Written by mker.py.) -/
namespace Go.Proofs.YtpmanmoljlhogaaGreatDoor
open Go.ChangeShapes Go.WideShapes Go.ChangeAt Go.WideMaps Go.WideElems Go.RowKit
theorem Tryz.own : ownKnob Tryz.prog.godebug = none := by kernel_rfl
theorem Tryz.laidOut : laidOutB Tryz.prog = true := by kernel_rfl
theorem Tryz.cellsE : Tryz.prog.cellsOf 325 = 1 := by kernel_rfl
theorem Tryz.cellsS : Tryz.prog.cellsOf 9 = 1 := by kernel_rfl
set_option maxRecDepth 100000 in
theorem Tryz.star : "*" ++ "errors.errorString" = "*errors.errorString" := by decide
set_option maxRecDepth 100000 in
theorem Tryz.rowE (u : TypeId) (h : Tryz.prog.typeName? 3 u = some "*errors.errorString") : u = 305 :=
  typeName_ptr_named (nm := "errors.errorString") (by rw [Tryz.star]; kernel_rfl) (by kernel_rfl) (by decide) u (by rw [Tryz.star]; exact h)
set_option maxRecDepth 100000 in
/-- One listed error: its variable's cell, its place; and the rest of the list. -/
theorem laid_step {W : World} {n : String} {g : Nat} {text : List UInt8} {r : List (String × DataW Unit)} {ps : List MemPlace} (hg : Tryz.prog.globalNamed n = some g) (ht : (Tryz.prog.globals[g]?).map (·.type) = some 46)
    (h : DataW.LaidVars Tryz.prog W ((n, .iface "*errors.errorString" (.ptr (.agg [.lit (.string text)]))) :: r) ps)
    (hrows : ∀ b off, MemPlace.cell b off ∈ ps → (∃ c t, W.heap[b]? = some (.cells c t (0, 0))) ∧ ∀ u v, W.cell? ⟨b, off, none⟩ = some (.iface u v) → Value.okWide Tryz.prog W .any 0 u v) :
    ∃ a q, Sent W g a ∧ DataW.LaidVars Tryz.prog W r q ∧ ps = MemPlace.cell g 0 :: MemPlace.cell a.block a.off :: q := by
  obtain ⟨g0, t0, cs0, f0, p0, q0, hg0, ht0, hv0, hd0, hr, e0⟩ := h
  obtain rfl := Option.some.inj (hg.symm.trans hg0)
  obtain rfl := Option.some.inj (ht.symm.trans ht0)
  subst e0
  obtain ⟨l0⟩ := cs0
  have ok0 : ∀ u v, l0 = [.iface u v] → Value.okWide Tryz.prog W .any 0 u v := fun u v e => by
    subst e
    exact (hrows g 0 (by simp [MemPlace.row])).2 u v (by simpa using World.var?_cell hg0 hv0 0)
  obtain ⟨a0, s0, rfl, hc0, hs0, hz0, rfl⟩ := errorString_of_trod Tryz.underlying46 Tryz.rowE Tryz.underlying305 Tryz.underlying325 rfl rfl Tryz.underlying9 Tryz.cellsE Tryz.cellsS hd0 ok0
  refine ⟨a0, q0, ⟨by simpa using World.var?_cell hg0 hv0 0, (hrows a0.block a0.off (by simp [MemPlace.row])).1⟩, hr, ?_⟩
  simp [MemPlace.row]
/-- A listed error: its name, its variable, its text. -/
abbrev LE : Type := String × Nat × List UInt8
def leV (x : LE) : String × DataW Unit := (x.1, .iface "*errors.errorString" (.ptr (.agg [.lit (.string x.2.2)])))
theorem laid_list {W : World} {r : List (String × DataW Unit)} : ∀ (xs : List LE) (ps : List MemPlace), (∀ x ∈ xs, Tryz.prog.globalNamed x.1 = some x.2.1 ∧ (Tryz.prog.globals[x.2.1]?).map (·.type) = some 46) →
    DataW.LaidVars Tryz.prog W (xs.map leV ++ r) ps → (∀ b off, MemPlace.cell b off ∈ ps → (∃ c t, W.heap[b]? = some (.cells c t (0, 0))) ∧ ∀ u v, W.cell? ⟨b, off, none⟩ = some (.iface u v) → Value.okWide Tryz.prog W .any 0 u v) →
    ∃ ads : List Addr, ads.length = xs.length ∧ (∀ (i : Nat) (x : LE) (a : Addr), xs[i]? = some x → ads[i]? = some a → Sent W x.2.1 a) ∧ (∀ a ∈ ads, MemPlace.cell a.block a.off ∈ ps) ∧ (ps.Nodup → ads.Pairwise (· ≠ ·))
  | [], ps, _, _, _ => ⟨[], rfl, fun i x a h => by simp at h, fun a h => by simp at h, fun _ => List.Pairwise.nil⟩
  | x :: xs, ps, hx, h, hr => by
    obtain ⟨a, q, hs, hq, rfl⟩ := laid_step (hx x List.mem_cons_self).1 (hx x List.mem_cons_self).2 h hr
    obtain ⟨ads, h1, h2, h3, h4⟩ := laid_list xs q (fun y hy => hx y (List.mem_cons_of_mem _ hy)) hq (fun b off hb => hr b off (List.mem_cons_of_mem _ (List.mem_cons_of_mem _ hb)))
    refine ⟨a :: ads, by simp [h1], fun i y b hy hb => ?_, fun b hb => ?_, fun hn => ?_⟩
    · cases i with
      | zero => simp at hy hb; subst hy; subst hb; exact hs
      | succ i => exact h2 i y b (by simpa using hy) (by simpa using hb)
    · rcases List.mem_cons.1 hb with rfl | hb
      · exact List.mem_cons_of_mem _ List.mem_cons_self
      · exact List.mem_cons_of_mem _ (List.mem_cons_of_mem _ (h3 b hb))
    · have hn2 := (List.nodup_cons.1 hn).2
      have hn3 := List.nodup_cons.1 hn2
      exact List.Pairwise.cons (fun b hb e => hn3.1 (by rw [e]; exact h3 b hb)) (h4 hn3.2)
theorem Tryz.g1 : Tryz.prog.globalNamed "semblance/api.ErrArg" = some 2 := by kernel_rfl
theorem Tryz.t1 : (Tryz.prog.globals[2]?).map (·.type) = some 46 := by kernel_rfl
theorem Tryz.g2 : Tryz.prog.globalNamed "semblance/api.ErrLong" = some 1 := by kernel_rfl
theorem Tryz.t2 : (Tryz.prog.globals[1]?).map (·.type) = some 46 := by kernel_rfl
theorem Tryz.g3 : Tryz.prog.globalNamed "semblance/api.ErrIndex" = some 3 := by kernel_rfl
theorem Tryz.t3 : (Tryz.prog.globals[3]?).map (·.type) = some 46 := by kernel_rfl
theorem Tryz.g4 : Tryz.prog.globalNamed "semblance/api.ErrWord" = some 4 := by kernel_rfl
theorem Tryz.t4 : (Tryz.prog.globals[4]?).map (·.type) = some 46 := by kernel_rfl
theorem Tryz.g5 : Tryz.prog.globalNamed "semblance/api.ErrSyntax" = some 5 := by kernel_rfl
theorem Tryz.t5 : (Tryz.prog.globals[5]?).map (·.type) = some 46 := by kernel_rfl
theorem Tryz.g6 : Tryz.prog.globalNamed "semblance/api.ErrDeep" = some 6 := by kernel_rfl
theorem Tryz.t6 : (Tryz.prog.globals[6]?).map (·.type) = some 46 := by kernel_rfl
theorem Tryz.g7 : Tryz.prog.globalNamed "semblance/api.ErrTwice" = some 7 := by kernel_rfl
theorem Tryz.t7 : (Tryz.prog.globals[7]?).map (·.type) = some 46 := by kernel_rfl
theorem Tryz.g8 : Tryz.prog.globalNamed "semblance/api.ErrUnknown" = some 8 := by kernel_rfl
theorem Tryz.t8 : (Tryz.prog.globals[8]?).map (·.type) = some 46 := by kernel_rfl
theorem Tryz.g9 : Tryz.prog.globalNamed "semblance/api.ErrSilent" = some 9 := by kernel_rfl
theorem Tryz.t9 : (Tryz.prog.globals[9]?).map (·.type) = some 46 := by kernel_rfl
theorem Tryz.g10 : Tryz.prog.globalNamed "semblance/api.ErrUnguarded" = some 10 := by kernel_rfl
theorem Tryz.t10 : (Tryz.prog.globals[10]?).map (·.type) = some 46 := by kernel_rfl
theorem Tryz.g11 : Tryz.prog.globalNamed "semblance/api.ErrSteps" = some 11 := by kernel_rfl
theorem Tryz.t11 : (Tryz.prog.globals[11]?).map (·.type) = some 46 := by kernel_rfl
theorem Tryz.g12 : Tryz.prog.globalNamed "semblance/api.ErrStates" = some 12 := by kernel_rfl
theorem Tryz.t12 : (Tryz.prog.globals[12]?).map (·.type) = some 46 := by kernel_rfl
theorem Tryz.g13 : Tryz.prog.globalNamed "semblance/api.ErrEdges" = some 13 := by kernel_rfl
theorem Tryz.t13 : (Tryz.prog.globals[13]?).map (·.type) = some 46 := by kernel_rfl
theorem Tryz.g14 : Tryz.prog.globalNamed "semblance/api.ErrSystem" = some 14 := by kernel_rfl
theorem Tryz.t14 : (Tryz.prog.globals[14]?).map (·.type) = some 46 := by kernel_rfl
theorem Tryz.g15 : Tryz.prog.globalNamed "semblance/api.ErrClasses" = some 15 := by kernel_rfl
theorem Tryz.t15 : (Tryz.prog.globals[15]?).map (·.type) = some 46 := by kernel_rfl
theorem Tryz.g16 : Tryz.prog.globalNamed "semblance/api.ErrFormula" = some 16 := by kernel_rfl
theorem Tryz.t16 : (Tryz.prog.globals[16]?).map (·.type) = some 46 := by kernel_rfl
theorem Tryz.g17 : Tryz.prog.globalNamed "semblance/api.ErrLimit" = some 17 := by kernel_rfl
theorem Tryz.t17 : (Tryz.prog.globals[17]?).map (·.type) = some 46 := by kernel_rfl
theorem Tryz.g18 : Tryz.prog.globalNamed "semblance/api.ErrNone" = some 0 := by kernel_rfl
theorem Tryz.t18 : (Tryz.prog.globals[0]?).map (·.type) = some 46 := by kernel_rfl
theorem Tryz.g19 : Tryz.prog.globalNamed "semblance/api.ErrScript" = some 18 := by kernel_rfl
theorem Tryz.t19 : (Tryz.prog.globals[18]?).map (·.type) = some 46 := by kernel_rfl
set_option maxRecDepth 100000 in
theorem er_of {W : World} {x1 x2 x3 x4 x5 x6 x7 x8 x9 x10 x11 x12 x13 x14 x15 x16 x17 x18 x19 : List UInt8} {r : List (String × DataW Unit)} (h : laidMet Tryz.prog (("semblance/api.ErrArg", .iface "*errors.errorString" (.ptr (.agg [.lit (.string x1)]))) :: ("semblance/api.ErrLong", .iface "*errors.errorString" (.ptr (.agg [.lit (.string x2)]))) :: ("semblance/api.ErrIndex", .iface "*errors.errorString" (.ptr (.agg [.lit (.string x3)]))) :: ("semblance/api.ErrWord", .iface "*errors.errorString" (.ptr (.agg [.lit (.string x4)]))) :: ("semblance/api.ErrSyntax", .iface "*errors.errorString" (.ptr (.agg [.lit (.string x5)]))) :: ("semblance/api.ErrDeep", .iface "*errors.errorString" (.ptr (.agg [.lit (.string x6)]))) :: ("semblance/api.ErrTwice", .iface "*errors.errorString" (.ptr (.agg [.lit (.string x7)]))) :: ("semblance/api.ErrUnknown", .iface "*errors.errorString" (.ptr (.agg [.lit (.string x8)]))) :: ("semblance/api.ErrSilent", .iface "*errors.errorString" (.ptr (.agg [.lit (.string x9)]))) :: ("semblance/api.ErrUnguarded", .iface "*errors.errorString" (.ptr (.agg [.lit (.string x10)]))) :: ("semblance/api.ErrSteps", .iface "*errors.errorString" (.ptr (.agg [.lit (.string x11)]))) :: ("semblance/api.ErrStates", .iface "*errors.errorString" (.ptr (.agg [.lit (.string x12)]))) :: ("semblance/api.ErrEdges", .iface "*errors.errorString" (.ptr (.agg [.lit (.string x13)]))) :: ("semblance/api.ErrSystem", .iface "*errors.errorString" (.ptr (.agg [.lit (.string x14)]))) :: ("semblance/api.ErrClasses", .iface "*errors.errorString" (.ptr (.agg [.lit (.string x15)]))) :: ("semblance/api.ErrFormula", .iface "*errors.errorString" (.ptr (.agg [.lit (.string x16)]))) :: ("semblance/api.ErrLimit", .iface "*errors.errorString" (.ptr (.agg [.lit (.string x17)]))) :: ("semblance/api.ErrNone", .iface "*errors.errorString" (.ptr (.agg [.lit (.string x18)]))) :: ("semblance/api.ErrScript", .iface "*errors.errorString" (.ptr (.agg [.lit (.string x19)]))) :: r) W) : ∃ e, Er 19 W e := by
  obtain ⟨ps, h0, hnd, r0⟩ := h
  obtain ⟨ads, h1, h2, _, h4⟩ := laid_list [("semblance/api.ErrArg", 2, x1), ("semblance/api.ErrLong", 1, x2), ("semblance/api.ErrIndex", 3, x3), ("semblance/api.ErrWord", 4, x4), ("semblance/api.ErrSyntax", 5, x5), ("semblance/api.ErrDeep", 6, x6), ("semblance/api.ErrTwice", 7, x7), ("semblance/api.ErrUnknown", 8, x8), ("semblance/api.ErrSilent", 9, x9), ("semblance/api.ErrUnguarded", 10, x10), ("semblance/api.ErrSteps", 11, x11), ("semblance/api.ErrStates", 12, x12), ("semblance/api.ErrEdges", 13, x13), ("semblance/api.ErrSystem", 14, x14), ("semblance/api.ErrClasses", 15, x15), ("semblance/api.ErrFormula", 16, x16), ("semblance/api.ErrLimit", 17, x17), ("semblance/api.ErrNone", 0, x18), ("semblance/api.ErrScript", 18, x19)] ps (fun x hx => by
    simp only [List.mem_cons, List.not_mem_nil, or_false] at hx
    rcases hx with rfl | rfl | rfl | rfl | rfl | rfl | rfl | rfl | rfl | rfl | rfl | rfl | rfl | rfl | rfl | rfl | rfl | rfl | rfl
    · exact ⟨Tryz.g1, Tryz.t1⟩
    · exact ⟨Tryz.g2, Tryz.t2⟩
    · exact ⟨Tryz.g3, Tryz.t3⟩
    · exact ⟨Tryz.g4, Tryz.t4⟩
    · exact ⟨Tryz.g5, Tryz.t5⟩
    · exact ⟨Tryz.g6, Tryz.t6⟩
    · exact ⟨Tryz.g7, Tryz.t7⟩
    · exact ⟨Tryz.g8, Tryz.t8⟩
    · exact ⟨Tryz.g9, Tryz.t9⟩
    · exact ⟨Tryz.g10, Tryz.t10⟩
    · exact ⟨Tryz.g11, Tryz.t11⟩
    · exact ⟨Tryz.g12, Tryz.t12⟩
    · exact ⟨Tryz.g13, Tryz.t13⟩
    · exact ⟨Tryz.g14, Tryz.t14⟩
    · exact ⟨Tryz.g15, Tryz.t15⟩
    · exact ⟨Tryz.g16, Tryz.t16⟩
    · exact ⟨Tryz.g17, Tryz.t17⟩
    · exact ⟨Tryz.g18, Tryz.t18⟩
    · exact ⟨Tryz.g19, Tryz.t19⟩) h0 r0
  have hp := h4 hnd
  have h1' : ads.length = 19 := h1
  have hg : ∀ k, 1 ≤ k → k ≤ 19 → ads[k - 1]? = some (ads.getD (k - 1) ⟨0, 0, none⟩) := fun k _ h19 => by rw [List.getD_eq_getElem?_getD, List.getElem?_eq_getElem (by omega)]; rfl
  refine ⟨fun k => ads.getD (k - 1) ⟨0, 0, none⟩, ⟨fun _ => h2 0 _ _ rfl (hg 1 (by decide) (by decide)), fun _ => h2 1 _ _ rfl (hg 2 (by decide) (by decide)), fun _ => h2 2 _ _ rfl (hg 3 (by decide) (by decide)), fun _ => h2 3 _ _ rfl (hg 4 (by decide) (by decide)), fun _ => h2 4 _ _ rfl (hg 5 (by decide) (by decide)), fun _ => h2 5 _ _ rfl (hg 6 (by decide) (by decide)), fun _ => h2 6 _ _ rfl (hg 7 (by decide) (by decide)), fun _ => h2 7 _ _ rfl (hg 8 (by decide) (by decide)), fun _ => h2 8 _ _ rfl (hg 9 (by decide) (by decide)), fun _ => h2 9 _ _ rfl (hg 10 (by decide) (by decide)), fun _ => h2 10 _ _ rfl (hg 11 (by decide) (by decide)), fun _ => h2 11 _ _ rfl (hg 12 (by decide) (by decide)), fun _ => h2 12 _ _ rfl (hg 13 (by decide) (by decide)), fun _ => h2 13 _ _ rfl (hg 14 (by decide) (by decide)), fun _ => h2 14 _ _ rfl (hg 15 (by decide) (by decide)), fun _ => h2 15 _ _ rfl (hg 16 (by decide) (by decide)), fun _ => h2 16 _ _ rfl (hg 17 (by decide) (by decide)), fun _ => h2 17 _ _ rfl (hg 18 (by decide) (by decide)), fun _ => h2 18 _ _ rfl (hg 19 (by decide) (by decide)), fun i j hi hij hj e => ?_⟩⟩
  have hpi := List.pairwise_iff_getElem.1 hp (i - 1) (j - 1) (by omega) (by omega) (by omega)
  have ei := hg i hi (by omega)
  have ej := hg j (by omega) hj
  rw [List.getElem?_eq_getElem (by omega)] at ei ej
  exact hpi ((Option.some.inj ei).trans (e.symm.trans (Option.some.inj ej).symm))
set_option maxRecDepth 100000 in
theorem system_of {W : World} {x14 : List UInt8} {r : List (String × DataW Unit)} (h : laidMet Tryz.prog (("semblance/api.ErrSystem", .iface "*errors.errorString" (.ptr (.agg [.lit (.string x14)]))) :: r) W) : ∃ a, Sent W 14 a := by
  obtain ⟨ps, h0, hnd, r0⟩ := h
  obtain ⟨ads, h1, h2, _, _⟩ := laid_list [("semblance/api.ErrSystem", 14, x14)] ps (fun x hx => by
    simp only [List.mem_cons, List.not_mem_nil, or_false] at hx
    rcases hx with rfl
    · exact ⟨Tryz.g14, Tryz.t14⟩) h0 r0
  obtain ⟨a, ha⟩ : ∃ a, ads[0]? = some a := ⟨ads[0]'(by rw [h1]; simp), List.getElem?_eq_getElem _⟩
  exact ⟨a, h2 0 _ a rfl ha⟩
end Go.Proofs.YtpmanmoljlhogaaGreatDoor
/- What the listed package variables give of strconv's table of powers of ten; and the rest of the list. -/
namespace Go.Proofs.YtpmanmoljlhogaaGreatDoor
open Go.RowKit
theorem laid_tail {W : World} {x : String × DataW Unit} {r : List (String × DataW Unit)} (h : laidMet Tryz.prog (x :: r) W) : laidMet Tryz.prog r W := by
  obtain ⟨ps, ⟨g, t, cs, fuel, p, q, _, _, _, _, hr, rfl⟩, hn, ho⟩ := h
  exact ⟨q, hr, (List.nodup_append.1 hn).2.1, fun b off hb => ho b off (List.mem_append_right _ hb)⟩
theorem Tryz.gPow : Tryz.prog.globalNamed "internal/strconv.uint64pow10" = some 20 := by kernel_rfl
theorem Tryz.tPow : (Tryz.prog.globals[20]?).map (·.type) = some 301 := by kernel_rfl
theorem Tryz.cPowE : Tryz.prog.cellsOf 203 = 1 := by kernel_rfl
theorem Tryz.cPow : Tryz.prog.cellsOf 301 = 20 := by kernel_rfl
theorem er_pow_of {W : World} {d1 d2 : String × DataW Unit} {r : List (String × DataW Unit)} (h : laidMet Tryz.prog (d1 :: d2 :: ("internal/strconv.uint64pow10", Lib.tabData .u64 Lib.pow10Tab) :: r) W) : Pow W ∧ laidMet Tryz.prog r W := by
  have h2 := laid_tail (laid_tail h)
  exact ⟨Lib.tabBelow_of_tabIs (Lib.tabIs_of_head Tryz.gPow Tryz.tPow Tryz.underlying301 Tryz.underlying203 Tryz.cPowE Tryz.cPow h2), laid_tail h2⟩
theorem erR_of {W : World} {x3 x14 x18 : List UInt8} {r : List (String × DataW Unit)} (h : laidMet Tryz.prog (("semblance/api.ErrIndex", .iface "*errors.errorString" (.ptr (.agg [.lit (.string x3)]))) :: ("semblance/api.ErrSystem", .iface "*errors.errorString" (.ptr (.agg [.lit (.string x14)]))) :: ("semblance/api.ErrNone", .iface "*errors.errorString" (.ptr (.agg [.lit (.string x18)]))) :: r) W) : ∃ e, ErR W e := by
  obtain ⟨ps, h0, hnd, r0⟩ := laid_tail h
  obtain ⟨ads, h1, h2, _, _⟩ := laid_list [("semblance/api.ErrSystem", 14, x14), ("semblance/api.ErrNone", 0, x18)] ps (fun x hx => by
    simp only [List.mem_cons, List.not_mem_nil, or_false] at hx
    rcases hx with rfl | rfl
    · exact ⟨Tryz.g14, Tryz.t14⟩
    · exact ⟨Tryz.g18, Tryz.t18⟩) h0 r0
  obtain ⟨a, ha⟩ : ∃ a, ads[0]? = some a := ⟨ads[0]'(by rw [h1]; simp), List.getElem?_eq_getElem _⟩
  obtain ⟨b, hb⟩ : ∃ a, ads[1]? = some a := ⟨ads[1]'(by rw [h1]; simp), List.getElem?_eq_getElem _⟩
  exact ⟨fun i => if i = 14 then a else b, fun _ => h2 0 _ a rfl ha, fun _ => h2 1 _ b rfl hb⟩
end Go.Proofs.YtpmanmoljlhogaaGreatDoor
/- Contracts of slices' order2, median, medianAdjacent and choosePivot of edges by a view's comparison. (Written by mkpiv.py.) -/
namespace Go.Proofs.YtpmanmoljlhogaaGreatDoor
open Go.RowKit Go.Maps
attribute [local go_sem ↓] Go.wp_at_zero Go.wp_at_succ
/-- The row, and a counter in a block of its own. -/
structure CnE (w0 wr : World) (g : Nat) (d : Array Sy.Ed) (rest : List Value) (c s : Nat) : Prop where
  row : RowE w0 wr g d rest
  cell : wr.heap[c]? = some (.cells #[.int .i64 s] 3 (0, 0))
  up : w0.heap.size ≤ c
theorem CnE.below {w0 wr w' : World} {g : Nat} {d : Array Sy.Ed} {rest : List Value} {c s : Nat} (h : CnE w0 wr g d rest c s) (hb : Below wr.heap.size wr w') : CnE w0 w' g d rest c s := ⟨h.row.below hb, (hb.block _ (t_lt h.cell)).trans h.cell, h.up⟩
theorem CnE.bump {w0 wr : World} {g : Nat} {d : Array Sy.Ed} {rest : List Value} {c s : Nat} (h : CnE w0 wr g d rest c s) (t : Nat) : CnE w0 (wr.setCell ⟨c, 0, none⟩ (.int .i64 t)) g d rest c t := by
  have hne : c ≠ g := fun e => by
    obtain ⟨cs, hc, _⟩ := h.row.ids
    have h1 := h.cell
    rw [e, hc] at h1
    injection h1 with h1
    injection h1 with _ h1
    exact absurd h1 (by decide)
  exact ⟨Arr.kept h.row (Kept.setCell _ _ _ _) fun b e => by subst e; exact ⟨h.up, hne⟩, heap_setCell_same _ _ 0 _ _ _ h.cell, h.up⟩
set_option maxRecDepth 100000 in
set_option maxHeartbeats 4000000 in
theorem order2_any (f : Nat) (vw : Sy.Ed → Sy.Ed) (hV : ViewAt f vw) (g cap a b c0 s : Nat) (d : Array Sy.Ed) (rest : List Value) (w0 w : World) (hR : CnE w0 w g d rest c0 s) (ha : a < d.size) (hb : b < d.size) (hs : s ≤ 1000000) :
    Calls Tryz.prog 226 #[.slice (some ⟨g, 0, none⟩) d.size cap, .int .i64 a, .int .i64 b, .pointer (some ⟨c0, 0, none⟩), cmpV f] w fun r w' => r = .returned (.tuple #[.int .i64 (Sort.order2 (ltV vw) d a b s).1, .int .i64 (Sort.order2 (ltV vw) d a b s).2.1]) ∧ CnE w0 w' g d rest c0 (Sort.order2 (ltV vw) d a b s).2.2 := by
  obtain ⟨n, hn⟩ : ∃ n, n = d.size := ⟨_, rfl⟩
  have HR : Hid _ := And.intro hR (And.intro hn hV)
  rw [← hn] at ha hb ⊢
  unfold cmpV Sort.order2
  have he := enter_cmp
  obtain ⟨x0, x1, x2⟩ := hR.row.cells (j := b) (by omega)
  obtain ⟨y0, y1, y2⟩ := hR.row.cells (j := a) (by omega)
  have hcm := fun W => compare_any f vw HR.out.2.2 (d[b]!) (d[a]!) W
  unfold edV at hcm
  have hlt2 := cmpV_neg vw (d[b]!) (d[a]!)
  obtain ⟨xe, hxe⟩ : ∃ xe, xe = d[b]! := ⟨_, rfl⟩
  obtain ⟨ye, hye⟩ : ∃ ye, ye = d[a]! := ⟨_, rfl⟩
  rw [← hxe] at x0 x1 x2 hcm hlt2
  rw [← hye] at y0 y1 y2 hcm hlt2
  have HE : Hid _ := And.intro hxe hye
  clear hxe hye
  obtain ⟨xa, xb, xc⟩ := xe
  obtain ⟨ya, yb, yc⟩ := ye
  generalize cmpE (vw (xa, xb, xc)) (vw (ya, yb, yc)) = c at hcm hlt2
  have HC : Hid _ := hcm
  have HL : Hid _ := hlt2
  clear hcm hlt2
  simp only at x0 x1 x2 y0 y1 y2
  clear hR hn hV
  have p0 : (0 : Int) ≤ (b : Int) := by omega
  have p1 : (b : Int) < (n : Int) := by omega
  have p2 : (0 : Int) ≤ (a : Int) := by omega
  have p3 : (a : Int) < (n : Int) := by omega
  by_cases hc : c < 0
  · have p6 : decide (c < 0) = true := decide_eq_true hc
    rw [if_pos (by rw [← HE.out.1, ← HE.out.2]; exact HL.out.1 hc)]
    go_enter Tryz.func226, Tryz.ntmps226
    go_upto_region 1 with fail
    go_region_held3 (fun w' => ((w'.cell? ⟨g, b * 3, none⟩ = some (.int .i64 xa) ∧ w'.cell? ⟨g, b * 3 + 1, none⟩ = some (.int .i64 xb) ∧ w'.cell? ⟨g, b * 3 + 2, none⟩ = some (.int .i64 xc)) ∧ (w'.cell? ⟨g, a * 3, none⟩ = some (.int .i64 ya) ∧ w'.cell? ⟨g, a * 3 + 1, none⟩ = some (.int .i64 yb) ∧ w'.cell? ⟨g, a * 3 + 2, none⟩ = some (.int .i64 yc))) ∧ Hid (Below w.heap.size w w')) (first | exact rg_up6 hb3 (by assumption) | exact ⟨⟨⟨x0, x1, x2⟩, ⟨y0, y1, y2⟩⟩, ((Below.refl _ _).drew : Below w.heap.size w w.drew)⟩ | go_keep)
      ((first
        | (go_at_fn 152; refine (HC.out _).mono ?_; rintro r w3 ⟨rfl, hb3⟩)
        | fail))
    have hbq : Below w.heap.size w w3 := rg_b (by assumption)
    clear x0 x1 x2 y0 y1 y2 hb3 HC
    rename_i hS3
    clear hS3
    have hR3 := HR.out.1.below hbq
    have k0 : w3.cell? ⟨c0, 0, none⟩ = some (.int .i64 s) := cell0_of hR3.cell rfl
    have k1 := blk_free hR3.cell 0
    have p8 : IntKind.i64.wrap ((s : Int) + 1) = (s : Int) + 1 := by rw [IntKind.wrap_i64]; omega
    have H3 : Hid _ := hR3
    clear hR3 hbq
    go_wp2_with fail
    go_ret2
    exact ⟨rfl, H3.out.bump (s + 1)⟩
  · have p6 : decide (c < 0) = false := decide_eq_false hc
    rw [if_neg (by rw [← HE.out.1, ← HE.out.2]; intro h; exact hc (HL.out.2 h))]
    go_enter Tryz.func226, Tryz.ntmps226
    go_upto_region 1 with fail
    go_region_held3 (fun w' => ((w'.cell? ⟨g, b * 3, none⟩ = some (.int .i64 xa) ∧ w'.cell? ⟨g, b * 3 + 1, none⟩ = some (.int .i64 xb) ∧ w'.cell? ⟨g, b * 3 + 2, none⟩ = some (.int .i64 xc)) ∧ (w'.cell? ⟨g, a * 3, none⟩ = some (.int .i64 ya) ∧ w'.cell? ⟨g, a * 3 + 1, none⟩ = some (.int .i64 yb) ∧ w'.cell? ⟨g, a * 3 + 2, none⟩ = some (.int .i64 yc))) ∧ Hid (Below w.heap.size w w')) (first | exact rg_up6 hb3 (by assumption) | exact ⟨⟨⟨x0, x1, x2⟩, ⟨y0, y1, y2⟩⟩, ((Below.refl _ _).drew : Below w.heap.size w w.drew)⟩ | go_keep)
      ((first
        | (go_at_fn 152; refine (HC.out _).mono ?_; rintro r w3 ⟨rfl, hb3⟩)
        | fail))
    have hbq : Below w.heap.size w w3 := rg_b (by assumption)
    clear x0 x1 x2 y0 y1 y2 hb3 HC
    rename_i hS3
    clear hS3
    have H3 : Hid _ := HR.out.1.below hbq
    clear hbq
    go_wp2_with fail
    go_ret2
    exact ⟨rfl, H3.out⟩
theorem o2_lt {lt : Sy.Ed → Sy.Ed → Bool} {d : Array Sy.Ed} {a b s n : Nat} (ha : a < n) (hb : b < n) : (Sort.order2 lt d a b s).1 < n ∧ (Sort.order2 lt d a b s).2.1 < n ∧ (Sort.order2 lt d a b s).2.2 ≤ s + 1 := by
  unfold Sort.order2
  split <;> simp [ha, hb]
set_option maxRecDepth 100000 in
set_option maxHeartbeats 4000000 in
theorem median_any (f : Nat) (vw : Sy.Ed → Sy.Ed) (hV : ViewAt f vw) (g cap a b c c0 s : Nat) (d : Array Sy.Ed) (rest : List Value) (w0 w : World) (hR : CnE w0 w g d rest c0 s) (ha : a < d.size) (hb : b < d.size) (hc : c < d.size) (hs : s + 3 ≤ 1000000) :
    Calls Tryz.prog 216 #[.slice (some ⟨g, 0, none⟩) d.size cap, .int .i64 a, .int .i64 b, .int .i64 c, .pointer (some ⟨c0, 0, none⟩), cmpV f] w fun r w' => r = .returned (.int .i64 (Sort.median (ltV vw) d a b c s).1) ∧ CnE w0 w' g d rest c0 (Sort.median (ltV vw) d a b c s).2 := by
  have h1 := order2_any f vw hV g cap a b c0 s d rest w0 w hR ha hb (by omega)
  obtain ⟨l1, l2, l3⟩ := o2_lt (lt := ltV vw) (d := d) (s := s) ha hb
  unfold Sort.median
  generalize Sort.order2 (ltV vw) d a b s = r1 at h1 l1 l2 l3 ⊢
  obtain ⟨a1, b1, s1⟩ := r1
  simp only at h1 l1 l2 l3 ⊢
  have h2 := fun W (h : CnE w0 W g d rest c0 s1) => order2_any f vw hV g cap b1 c c0 s1 d rest w0 W h l2 hc (by omega)
  obtain ⟨l4, l5, l6⟩ := o2_lt (lt := ltV vw) (d := d) (s := s1) l2 hc
  generalize Sort.order2 (ltV vw) d b1 c s1 = r2 at h2 l4 l5 l6 ⊢
  obtain ⟨b2, c2, s2⟩ := r2
  simp only at h2 l4 l5 l6 ⊢
  have h3 := fun W (h : CnE w0 W g d rest c0 s2) => order2_any f vw hV g cap a1 b2 c0 s2 d rest w0 W h l1 l4 (by omega)
  generalize Sort.order2 (ltV vw) d a1 b2 s2 = r3 at h3 ⊢
  obtain ⟨a3, b3, s3⟩ := r3
  simp only at h3 ⊢
  have HH : Hid _ := And.intro h1 (And.intro h2 h3)
  unfold cmpV at HH ⊢
  clear h1 h2 h3 hR hV l1 l2 l3 l4 l5 l6
  go_enter Tryz.func216, Tryz.ntmps216
  go_wp2_with fail
  refine Calls.mono HH.out.1 ?_
  rintro r w1 ⟨rfl, hR1⟩
  go_wp2_with fail
  refine Calls.mono (HH.out.2.1 _ hR1) ?_
  rintro r w2 ⟨rfl, hR2⟩
  go_wp2_with fail
  refine Calls.mono (HH.out.2.2 _ hR2) ?_
  rintro r w3 ⟨rfl, hR3⟩
  go_wp2_with fail
  go_ret
  exact ⟨rfl, hR3⟩
set_option maxRecDepth 100000 in
set_option maxHeartbeats 4000000 in
theorem medianAdj_any (f : Nat) (vw : Sy.Ed → Sy.Ed) (hV : ViewAt f vw) (g cap a c0 s : Nat) (d : Array Sy.Ed) (rest : List Value) (w0 w : World) (hR : CnE w0 w g d rest c0 s) (ha : 1 ≤ a) (hb : a + 1 < d.size) (hsz : d.size ≤ 1000000) (hs : s + 3 ≤ 1000000) :
    Calls Tryz.prog 215 #[.slice (some ⟨g, 0, none⟩) d.size cap, .int .i64 a, .pointer (some ⟨c0, 0, none⟩), cmpV f] w fun r w' => r = .returned (.int .i64 (Sort.medianAdjacent (ltV vw) d a s).1) ∧ CnE w0 w' g d rest c0 (Sort.medianAdjacent (ltV vw) d a s).2 := by
  obtain ⟨p, rfl⟩ : ∃ p, a = p + 1 := ⟨a - 1, by omega⟩
  have h1 := median_any f vw hV g cap p (p + 1) (p + 1 + 1) c0 s d rest w0 w hR (by omega) (by omega) (by omega) hs
  unfold Sort.medianAdjacent
  rw [Nat.add_sub_cancel]
  generalize Sort.median (ltV vw) d p (p + 1) (p + 1 + 1) s = r1 at h1 ⊢
  obtain ⟨m1, s1⟩ := r1
  have e1 : IntKind.i64.wrap (((p + 1 : Nat) : Int) - 1) = (p : Int) := by rw [IntKind.wrap_i64]; omega
  have e2 : IntKind.i64.wrap (((p + 1 : Nat) : Int) + 1) = ((p + 1 + 1 : Nat) : Int) := by rw [IntKind.wrap_i64]; omega
  have HH : Hid _ := h1
  unfold cmpV at HH ⊢
  clear h1 hR hV
  go_enter Tryz.func215, Tryz.ntmps215
  go_wp2_with fail
  have HH2 := HH.out
  simp only [Int.natCast_add, Int.natCast_one] at HH2 ⊢
  refine Calls.mono HH2 ?_
  rintro r w1 ⟨rfl, hR1⟩
  go_wp2_with fail
  go_ret
  exact ⟨rfl, hR1⟩
end Go.Proofs.YtpmanmoljlhogaaGreatDoor
