/- Texts of this claim, joined: SgLawCl, ErLaid, SgLaid, SyArgI, SyArg. -/
import Derived.Test.YtkiapldehlnndaaGreatDoorPart5
import Derived.Test.YtkiapldehlnndaaGreatDoorPart15
import Derived.Test.YtkiapldehlnndaaGreatDoorPart16
import Derived.Test.YtkiapldehlnndaaGreatDoorPart2
import Derived.Test.YtkiapldehlnndaaGreatDoorPart6
import Derived.Test.YtkiapldehlnndaaGreatDoorRows
import Derived.ProofKit
import Derived.LaidMore
import Derived.Stop.LaidErr
import Derived.OpenShut
import Derived.Test.YtkiapldehlnndaaGreatDoorPart3
import Derived.Lib.SmallJoins
import Derived.Deep.Slices
/- StrongClasses as a call: for every system the classes are the document's. -/
namespace Go.Proofs.YtkiapldehlnndaaGreatDoor
open Go.RowKit Go.Maps
attribute [local go_sem ↓] Go.wp_at_zero Go.wp_at_succ
theorem hasE_has {w : World} {v : Value} {es : List Sy.Ed} (h : HasE w v es) : BEdges.Has w v es := by obtain ⟨_, _, _, _, h⟩ := h; exact h
theorem box_new9 (w : World) (a0 a1 a2 a3 : Value) (t : TypeId) : Below w.heap.size w (w.alloc (.cells #[a0, a1, a2, a3] t)) := (Below.refl _ _).alloc (Nat.le_refl _) _
set_option maxRecDepth 100000 in
set_option maxHeartbeats 4000000 in
theorem lawCl_out (n k s : Int) (v : Value) (es : List Sy.Ed) (w : World) (hA : PAl9 w) (hv : HasE w v es) (hli : lightB n es.length (Sy.right n k s es) = false) :
 Calls Tryz.prog 3 #[sysV n k s v] w fun r w' => r = .returned (.bool true) ∧ Below w.heap.size w w' := by
 have hvs := hv
 obtain ⟨ao, cap, rfl, hcap, hH⟩ := hvs
 obtain ⟨L, hL⟩ : ∃ L, L = es.length := ⟨_, rfl⟩
 obtain ⟨w1, hw1⟩ : ∃ w1, w1 = w.alloc (.cells #[.int .i64 n, .int .i64 k, .int .i64 s, .slice ao L cap] 24) := ⟨_, rfl⟩
 have hb1 : Below w.heap.size w w1 := by rw [hw1]; exact (Below.refl _ _).alloc (Nat.le_refl _) _
 have hg1 : w1.heap[w.heap.size]? = some (.cells #[.int .i64 n, .int .i64 k, .int .i64 s, .slice ao L cap] 24 (0, 0)) := by rw [hw1]; exact heap_alloc_new w _
 have hLt := light_any n k s _ es w1 (hH.below hb1)
 rw [hli] at hLt
 rw [← hL] at hLt ⊢
 unfold sysV at hLt ⊢
 have H1 : Hid _ := And.intro hw1 (And.intro hb1 (And.intro hLt hA))
 obtain ⟨x0, x1, x2, x3⟩ := four_cells hg1
 clear hA hv hH hcap hL hw1 hb1 hg1 hLt hli
 go_enter Tryz.func3, Tryz.ntmps3
 go_upto_region 1 with fail
 rw [← H1.out.1]
 go_wp2_with fail
 refine Calls.mono H1.out.2.2.1 ?_
 rintro r w2 ⟨rfl, hb2⟩
 have H2 : Hid (Below w.heap.size w w2) := bel6 hb2 H1.out.2.1
 clear hb2
 go_wp2_with fail
 refine Calls.mono (H1.out.2.2.2 _ H2.out) ?_
 rintro r w3 ⟨rfl, hb3⟩
 have H3 : Hid (Below w.heap.size w w3) := bel6 hb3 H2.out
 clear hb3
 go_wp2_with fail
 go_ret
 exact ⟨rfl, H3.out⟩
set_option maxRecDepth 100000 in
set_option maxHeartbeats 8000000 in
theorem lawCl_bad (hS : SortOk 1000000) (n k s : Int) (v : Value) (es : List Sy.Ed) (e : Nat → Addr) (w : World) (hA : PAl9 w) (hE : Er 19 w e) (hv : HasE w v es) (hlen : es.length ≤ 11000) (hq : Sy.right n k s es = false) (hli : lightB n es.length (Sy.right n k s es) = true) :
 Calls Tryz.prog 3 #[sysV n k s v] w fun r w' => r = .returned (.bool true) ∧ Below w.heap.size w w' := by
 have hvs := hv
 obtain ⟨ao, cap, rfl, hcap, hH⟩ := hvs
 obtain ⟨L, hL⟩ : ∃ L, L = es.length := ⟨_, rfl⟩
 obtain ⟨w1, hw1⟩ : ∃ w1, w1 = w.alloc (.cells #[.int .i64 n, .int .i64 k, .int .i64 s, .slice ao L cap] 24) := ⟨_, rfl⟩
 have hb1 : Below w.heap.size w w1 := by rw [hw1]; exact (Below.refl _ _).alloc (Nat.le_refl _) _
 have hg1 : w1.heap[w.heap.size]? = some (.cells #[.int .i64 n, .int .i64 k, .int .i64 s, .slice ao L cap] 24 (0, 0)) := by rw [hw1]; exact heap_alloc_new w _
 have hLt := light_any n k s _ es w1 (hH.below hb1)
 rw [hli] at hLt
 have hLn := fun W (hb : Below w1.heap.size w1 W) => lentS_any n k s _ es W (by omega) ((hH.below hb1).below hb)
 have hCl := fun W u (hb : Below w1.heap.size w1 W) (hu : LentE W w1.heap.size u es) => sclasses_bad hS n k s u es (e 14) W (((hE.below hb1).below hb).s14 (by decide)) (hasE_has hu.hasE) (by omega) hq
 have hHd := fun W (hb : Below w1.heap.size w1 W) => handed_str n k s _ es W ((hH.below hb1).below hb)
 have hSt := fun W u (hb : Below w1.heap.size w1 W) (hu : LentE W w1.heap.size u es) => staysS_any n k s n k s w1.heap.size u _ es W (by omega) hu ((hH.below hb1).below hb)
 rw [hq] at hHd
 rw [← hL] at hLt hLn hHd hSt ⊢
 unfold sysV at hLt hLn hCl hHd hSt ⊢
 have H1 : Hid _ := And.intro hw1 (And.intro hb1 (And.intro hLt (And.intro hA (And.intro hLn (And.intro hCl (And.intro hHd (And.intro hSt (And.intro hE (And.intro hg1 hL)))))))))
 obtain ⟨x0, x1, x2, x3⟩ := four_cells hg1
 clear hA hE hv hH hcap hL hw1 hb1 hg1 hLt hLn hCl hHd hSt hli hq hlen
 go_enter Tryz.func3, Tryz.ntmps3
 go_upto_region 1 with fail
 rw [← H1.out.1]
 go_wp2_with fail
 refine Calls.mono H1.out.2.2.1 ?_
 rintro r w2 ⟨rfl, hb2⟩
 clear x0 x1 x2 x3
 obtain ⟨x0, x1, x2, x3⟩ := four_cells (res_up6 hb2 H1.out.2.2.2.2.2.2.2.2.2.1)
 have H2 : Hid (Below w1.heap.size w1 w2) := hb2
 clear hb2
 go_wp2_with fail
 refine Calls.mono (H1.out.2.2.2.2.1 _ H2.out) ?_
 rintro r w3 ⟨u, rfl, hLe, hb3⟩
 have hLe1 : LentE w3 w1.heap.size u es := by
  obtain ⟨g, c, h1, h2, h3⟩ := hLe
  exact ⟨g, c, h1, h2, row_base h3 H2.out.size⟩
 obtain ⟨gl, cl, rfl, _, _⟩ := id hLe1
 rw [← H1.out.2.2.2.2.2.2.2.2.2.2] at hLe1 ⊢
 have H3 : Hid _ := And.intro (bel6 hb3 H2.out) hLe1
 clear hLe hLe1 hb3 x0 x1 x2 x3
 go_upto_region 4 with fail
 obtain ⟨w4, hw4⟩ : ∃ w4, w4 = w3.alloc (.cells #[.int .i64 n, .int .i64 k, .int .i64 s, .slice (some ⟨gl, 0, none⟩) L cl] 24) := ⟨_, rfl⟩
 rw [← hw4]
 have hb4 : Below w3.heap.size w3 w4 := by rw [hw4]; exact box_new9 _ _ _ _ _ _
 have hg4 : w4.heap[w3.heap.size]? = some (.cells #[.int .i64 n, .int .i64 k, .int .i64 s, .slice (some ⟨gl, 0, none⟩) L cl] 24 (0, 0)) := by rw [hw4]; exact heap_alloc_new w3 _
 obtain ⟨z0, z1, z2, z3⟩ := four_cells hg4
 obtain ⟨bl, hbl⟩ : ∃ bl, bl = w3.heap.size := ⟨_, rfl⟩
 rw [← hbl] at z0 z1 z2 z3 hg4 ⊢
 have H4 : Hid _ := And.intro (bel6 hb4 H3.out.1) (And.intro (H3.out.2.below hb4) hg4)
 clear hb4 hg4 hw4 hbl
 go_wp2_with fail
 refine Calls.mono (H1.out.2.2.2.2.2.1 _ _ H4.out.1 H4.out.2.1) ?_
 rintro r w5 ⟨bx, rfl, hC5, hb5⟩
 have H5 : Hid _ := And.intro (bel6 hb5 H4.out.1) (And.intro hC5 (And.intro (res_up6 hb5 H4.out.2.2) (H4.out.2.1.below hb5)))
 clear hC5 hb5 z0 z1 z2 z3
 obtain ⟨x0, x1, x2, x3⟩ := four_cells (res_up6 H5.out.1 H1.out.2.2.2.2.2.2.2.2.2.1)
 go_wp2_with fail
 refine Calls.mono (H1.out.2.2.2.2.2.2.1 _ H5.out.1) ?_
 rintro r w6 ⟨rfl, hb6⟩
 rw [show hndStr false = .agg #[.int .i64 14, .int .i64 0, .int .i64 0, .string strB2] from rfl]
 have H6 : Hid _ := And.intro hb6 (bel6 hb6 H5.out.1)
 clear hb6 x0 x1 x2 x3
 go_upto_region 6 with fail
 obtain ⟨w7, hw7⟩ : ∃ w7, w7 = w6.alloc (.cells #[.int .i64 14, .int .i64 0, .int .i64 0, .string strB2] 34) := ⟨_, rfl⟩
 have hb7 : Below w6.heap.size w6 w7 := by rw [hw7]; exact box_new9 _ _ _ _ _ _
 have hg7 : w7.heap[w6.heap.size]? = some (.cells #[.int .i64 14, .int .i64 0, .int .i64 0, .string strB2] 34 (0, 0)) := by rw [hw7]; exact heap_alloc_new w6 _
 rw [← hw7]
 obtain ⟨y0, y1, y2, y3⟩ := four_cells hg7
 obtain ⟨b2, hb2⟩ : ∃ b2, b2 = w6.heap.size := ⟨_, rfl⟩
 rw [← hb2] at y0 y1 y2 y3 hg7 ⊢
 have hb57 := bel6 hb7 H6.out.1
 have hT := told_14 (by decide) _ _ 0 0 e w7 ((H1.out.2.2.2.2.2.2.2.2.1.below H1.out.2.1).below (bel6 hb7 H6.out.2)) (H5.out.2.1.below hb57) (by decide) (by decide)
 rw [str_join2] at hT
 have H7 : Hid _ := And.intro (bel6 hb7 H6.out.2) (And.intro hT (And.intro hg7 (And.intro (res_up6 hb57 H5.out.2.2.1) (H5.out.2.2.2.below hb57))))
 clear hb7 hg7 hw7 hT hb2 hb57
 go_wp2_with fail
 refine Calls.mono H7.out.2.1 ?_
 rintro r w8 ⟨rfl, hb8⟩
 have H8 : Hid _ := And.intro (bel6 hb8 H7.out.1) (And.intro (res_up6 hb8 H7.out.2.2.1) (H7.out.2.2.2.2.below hb8))
 obtain ⟨z0, z1, z2, z3⟩ := four_cells (res_up6 hb8 H7.out.2.2.2.1)
 obtain ⟨x0, x1, x2, x3⟩ := four_cells (res_up6 H8.out.1 H1.out.2.2.2.2.2.2.2.2.2.1)
 clear hb8 y0 y1 y2 y3
 go_wp2_with fail
 refine Calls.mono (H1.out.2.2.2.2.2.2.2.1 _ _ H8.out.1 H8.out.2.2) ?_
 rintro r w9 ⟨rfl, hb9⟩
 have H9 : Hid (Below w.heap.size w w9) := bel6 (bel6 hb9 H8.out.1) H1.out.2.1
 obtain ⟨y0, y1, y2, y3⟩ := four_cells (res_up6 hb9 H8.out.2.1)
 clear hb9 x0 x1 x2 x3 z0 z1 z2 z3
 go_wp2_with fail
 refine Calls.mono (H1.out.2.2.2.1 _ H9.out) ?_
 rintro r wa ⟨rfl, hba⟩
 have HX : Hid (Below w.heap.size w wa) := bel6 hba H9.out
 clear hba
 go_wp2_with fail
 go_ret
 exact ⟨rfl, HX.out⟩
set_option maxRecDepth 100000 in
set_option maxHeartbeats 8000000 in
theorem lawCl_ok (hS : SortOk 1000000) (m kk : Nat) (s : Int) (v : Value) (es : List Sy.Ed) (e : Nat → Addr) (w : World) (hA : PAl9 w) (hE : Er 19 w e) (hv : HasE w v es) (hlen : es.length ≤ 11000) (hq : Sy.right m kk s es = true) (hli : lightB m es.length (Sy.right m kk s es) = true) :
 Calls Tryz.prog 3 #[sysV m kk s v] w fun r w' => r = .returned (.bool true) ∧ Below w.heap.size w w' := by
 have hm1 : m ≤ 1000 := by have := (right_parts hq).1; omega
 have hvs := hv
 obtain ⟨ao, cap, rfl, hcap, hH⟩ := hvs
 obtain ⟨L, hL⟩ : ∃ L, L = es.length := ⟨_, rfl⟩
 obtain ⟨w1, hw1⟩ : ∃ w1, w1 = w.alloc (.cells #[.int .i64 m, .int .i64 kk, .int .i64 s, .slice ao L cap] 24) := ⟨_, rfl⟩
 have hb1 : Below w.heap.size w w1 := by rw [hw1]; exact (Below.refl _ _).alloc (Nat.le_refl _) _
 have hg1 : w1.heap[w.heap.size]? = some (.cells #[.int .i64 m, .int .i64 kk, .int .i64 s, .slice ao L cap] 24 (0, 0)) := by rw [hw1]; exact heap_alloc_new w _
 have hLt := light_any m kk s _ es w1 (hH.below hb1)
 rw [hli] at hLt
 have hLn := fun W (hb : Below w1.heap.size w1 W) => lentS_any m kk s _ es W (by omega) ((hH.below hb1).below hb)
 have hCl := fun W u (hb : Below w1.heap.size w1 W) (hu : LentE W w1.heap.size u es) => sclasses_ok hS m kk s u es (e 14) W (((hE.below hb1).below hb).s14 (by decide)) (hasE_has hu.hasE) (by omega) hq
 have hHd := fun W (hb : Below w1.heap.size w1 W) => handed_str m kk s _ es W ((hH.below hb1).below hb)
 have hSt := fun W u (hb : Below w1.heap.size w1 W) (hu : LentE W w1.heap.size u es) => staysS_any m kk s m kk s w1.heap.size u _ es W (by omega) hu ((hH.below hb1).below hb)
 have hDc := fun W (hb : Below w1.heap.size w1 W) => docClasses_any m kk s _ es W ((hv.below hb1).below hb) hq
 rw [hq] at hHd
 rw [← hL] at hLt hLn hHd hSt hDc ⊢
 unfold sysV at hLt hLn hCl hHd hSt hDc ⊢
 have H1 : Hid _ := And.intro hw1 (And.intro hb1 (And.intro hLt (And.intro hA (And.intro hLn (And.intro hCl (And.intro hHd (And.intro hSt (And.intro hE (And.intro hg1 (And.intro hL (And.intro hDc hm1)))))))))))
 obtain ⟨x0, x1, x2, x3⟩ := four_cells hg1
 clear hA hE hv hH hcap hL hw1 hb1 hg1 hLt hLn hCl hHd hSt hli hq hlen hDc hm1
 go_enter Tryz.func3, Tryz.ntmps3
 go_upto_region 1 with fail
 rw [← H1.out.1]
 go_wp2_with fail
 refine Calls.mono H1.out.2.2.1 ?_
 rintro r w2 ⟨rfl, hb2⟩
 clear x0 x1 x2 x3
 obtain ⟨x0, x1, x2, x3⟩ := four_cells (res_up6 hb2 H1.out.2.2.2.2.2.2.2.2.2.1)
 have H2 : Hid (Below w1.heap.size w1 w2) := hb2
 clear hb2
 go_wp2_with fail
 refine Calls.mono (H1.out.2.2.2.2.1 _ H2.out) ?_
 rintro r w3 ⟨u, rfl, hLe, hb3⟩
 have hLe1 : LentE w3 w1.heap.size u es := by
  obtain ⟨g, c, h1, h2, h3⟩ := hLe
  exact ⟨g, c, h1, h2, row_base h3 H2.out.size⟩
 obtain ⟨gl, cl, rfl, _, _⟩ := id hLe1
 rw [← H1.out.2.2.2.2.2.2.2.2.2.2.1] at hLe1 ⊢
 have H3 : Hid _ := And.intro (bel6 hb3 H2.out) hLe1
 clear hLe hLe1 hb3 x0 x1 x2 x3
 go_upto_region 4 with fail
 obtain ⟨w4, hw4⟩ : ∃ w4, w4 = w3.alloc (.cells #[.int .i64 m, .int .i64 kk, .int .i64 s, .slice (some ⟨gl, 0, none⟩) L cl] 24) := ⟨_, rfl⟩
 rw [← hw4]
 have hb4 : Below w3.heap.size w3 w4 := by rw [hw4]; exact box_new9 _ _ _ _ _ _
 have hg4 : w4.heap[w3.heap.size]? = some (.cells #[.int .i64 m, .int .i64 kk, .int .i64 s, .slice (some ⟨gl, 0, none⟩) L cl] 24 (0, 0)) := by rw [hw4]; exact heap_alloc_new w3 _
 obtain ⟨z0, z1, z2, z3⟩ := four_cells hg4
 obtain ⟨bl, hbl⟩ : ∃ bl, bl = w3.heap.size := ⟨_, rfl⟩
 rw [← hbl] at z0 z1 z2 z3 hg4 ⊢
 have H4 : Hid _ := And.intro (bel6 hb4 H3.out.1) (And.intro (H3.out.2.below hb4) hg4)
 clear hb4 hg4 hw4 hbl
 go_wp2_with fail
 refine Calls.mono (H1.out.2.2.2.2.2.1 _ _ H4.out.1 H4.out.2.1) ?_
 rintro r w5 ⟨uc, R, rfl, hR, hO5, hb5⟩
 have hcn : (natI (Ro.rnd m (fun i => Sy.rowOf m (Sy.nf es) (i : Int)) R)).length = m := by simp [natI, Ro.rnd_len]
 obtain ⟨ac, cc, huc⟩ := row_shape hO5
 rw [hcn] at huc
 subst huc
 have H5 : Hid _ := And.intro (bel6 hb5 H4.out.1) (And.intro hO5.has (And.intro (res_up6 hb5 H4.out.2.2) (And.intro (H4.out.2.1.below hb5) (And.intro hR hcn))))
 clear hO5 hb5 hR hcn z0 z1 z2 z3
 obtain ⟨x0, x1, x2, x3⟩ := four_cells (res_up6 H5.out.1 H1.out.2.2.2.2.2.2.2.2.2.1)
 go_wp2_with fail
 refine Calls.mono (H1.out.2.2.2.2.2.2.1 _ H5.out.1) ?_
 rintro r w6 ⟨rfl, hb6⟩
 rw [show hndStr true = .agg #[.int .i64 0, .int .i64 0, .int .i64 0, .string ⟨#[]⟩] from rfl]
 have H6 : Hid _ := And.intro hb6 (bel6 hb6 H5.out.1)
 clear hb6 x0 x1 x2 x3
 go_upto_region 6 with fail
 obtain ⟨w7, hw7⟩ : ∃ w7, w7 = w6.alloc (.cells #[.int .i64 0, .int .i64 0, .int .i64 0, .string ⟨#[]⟩] 34) := ⟨_, rfl⟩
 have hb7 : Below w6.heap.size w6 w7 := by rw [hw7]; exact box_new9 _ _ _ _ _ _
 have hg7 : w7.heap[w6.heap.size]? = some (.cells #[.int .i64 0, .int .i64 0, .int .i64 0, .string ⟨#[]⟩] 34 (0, 0)) := by rw [hw7]; exact heap_alloc_new w6 _
 rw [← hw7]
 obtain ⟨y0, y1, y2, y3⟩ := four_cells hg7
 obtain ⟨b2, hb2⟩ : ∃ b2, b2 = w6.heap.size := ⟨_, rfl⟩
 rw [← hb2] at y0 y1 y2 y3 hg7 ⊢
 have hb57 := bel6 hb7 H6.out.1
 have hT := told_none 0 0 ⟨#[]⟩ w7
 have H7 : Hid _ := And.intro (bel6 hb7 H6.out.2) (And.intro hT (And.intro hg7 (And.intro (res_up6 hb57 H5.out.2.2.1) (And.intro (H5.out.2.2.2.1.below hb57) (H5.out.2.1.below hb57)))))
 clear hb7 hg7 hw7 hT hb2 hb57
 go_wp2_with fail
 refine Calls.mono H7.out.2.1 ?_
 rintro r w8 ⟨rfl, hb8⟩
 have H8 : Hid _ := And.intro (bel6 hb8 H7.out.1) (And.intro (res_up6 hb8 H7.out.2.2.1) (And.intro (H7.out.2.2.2.2.1.below hb8) (H7.out.2.2.2.2.2.below hb8)))
 obtain ⟨z0, z1, z2, z3⟩ := four_cells (res_up6 hb8 H7.out.2.2.2.1)
 obtain ⟨x0, x1, x2, x3⟩ := four_cells (res_up6 H8.out.1 H1.out.2.2.2.2.2.2.2.2.2.1)
 clear hb8 y0 y1 y2 y3
 go_wp2_with fail
 refine Calls.mono (H1.out.2.2.2.2.2.2.2.1 _ _ H8.out.1 H8.out.2.2.1) ?_
 rintro r w9 ⟨rfl, hb9⟩
 have H9 : Hid _ := And.intro (bel6 hb9 H8.out.1) (H8.out.2.2.2.below hb9)
 obtain ⟨y0, y1, y2, y3⟩ := four_cells (res_up6 hb9 H8.out.2.1)
 clear hb9 x0 x1 x2 x3 z0 z1 z2 z3
 go_wp2_with fail
 refine Calls.mono (H1.out.2.2.2.1 _ (bel6 H9.out.1 H1.out.2.1)) ?_
 rintro r wa ⟨rfl, hba⟩
 have HX : Hid _ := And.intro (bel6 hba H9.out.1) (H9.out.2.below hba)
 clear hba y0 y1 y2 y3
 obtain ⟨x0, x1, x2, x3⟩ := four_cells (res_up6 HX.out.1 H1.out.2.2.2.2.2.2.2.2.2.1)
 go_wp2_with fail
 refine Calls.mono (H1.out.2.2.2.2.2.2.2.2.2.2.2.1 _ HX.out.1) ?_
 rintro r wb ⟨gd, R', rfl, hR', hI', hbb⟩
 obtain rfl : R = R' := Ro.Last.unique H5.out.2.2.2.2.1 hR'
 have hSi := sameInts_b (.slice ac m cc) (.slice (some ⟨gd, 0, none⟩) m m) _ _ wb (by rw [H5.out.2.2.2.2.2]; have := H1.out.2.2.2.2.2.2.2.2.2.2.2.2; omega) (by rw [show outOf m es = fun i : Nat => Sy.rowOf m (Sy.nf es) (i : Int) from rfl, H5.out.2.2.2.2.2]; have := H1.out.2.2.2.2.2.2.2.2.2.2.2.2; omega) (HX.out.2.below hbb) hI'
 rw [show outOf m es = fun i : Nat => Sy.rowOf m (Sy.nf es) (i : Int) from rfl, beq_self_eq_true] at hSi
 have HY : Hid _ := And.intro (bel6 hbb HX.out.1) hSi
 clear hbb hSi hI' hR' x0 x1 x2 x3
 go_wp2_with fail
 refine Calls.mono HY.out.2 ?_
 rintro r wd ⟨rfl, hbd⟩
 have HZ : Hid (Below w.heap.size w wd) := bel6 (bel6 hbd HY.out.1) H1.out.2.1
 clear hbd
 go_wp2_with fail
 go_ret
 exact ⟨rfl, HZ.out⟩
theorem lawClasses_any (hS : SortOk 1000000) (n k s : Int) (v : Value) (es : List Sy.Ed) (e : Nat → Addr) (w : World) (hE : Er 19 w e) (hV : EnvS w (e 14) (e 15) (e 1) (e 3)) (hv : HasE w v es) :
 Calls Tryz.prog 3 #[sysV n k s v] w fun r w' => r = .returned (.bool true) ∧ Below w.heap.size w w' := by
 have hA := pAl9 hS _ _ _ _ w hV
 cases hli : lightB n es.length (Sy.right n k s es) with
 | false => exact lawCl_out n k s v es w hA hv hli
 | true =>
   have hlen : es.length ≤ 11000 := by
    unfold lightB at hli
    simp only [Bool.or_eq_true, Bool.and_eq_true, decide_eq_true_eq] at hli
    omega
   cases hq : Sy.right n k s es with
   | false => exact lawCl_bad hS n k s v es e w hA hE hv hlen hq hli
   | true =>
     have hp := right_parts hq
     obtain ⟨m, rfl⟩ : ∃ m : Nat, n = (m : Int) := ⟨n.toNat, by omega⟩
     obtain ⟨kk, rfl⟩ : ∃ m : Nat, k = (m : Int) := ⟨k.toNat, by omega⟩
     exact lawCl_ok hS m kk s v es e w hA hE hv hlen hq hli
end Go.Proofs.YtkiapldehlnndaaGreatDoor
/- What the listed package variables give: api's errors lie in memory, each at an address of its own, whichever are listed. (Written by mker.py.) -/
namespace Go.Proofs.YtkiapldehlnndaaGreatDoor
open Go.ChangeShapes Go.WideShapes Go.ChangeAt Go.WideMaps Go.WideElems Go.RowKit
theorem Tryz.own : ownKnob Tryz.prog.godebug = none := by kernel_rfl
theorem Tryz.laidOut : laidOutB Tryz.prog = true := by kernel_rfl
theorem Tryz.cellsE : Tryz.prog.cellsOf 307 = 1 := by kernel_rfl
theorem Tryz.cellsS : Tryz.prog.cellsOf 9 = 1 := by kernel_rfl
set_option maxRecDepth 100000 in
theorem Tryz.star : "*" ++ "errors.errorString" = "*errors.errorString" := by decide
set_option maxRecDepth 100000 in
theorem Tryz.rowE (u : TypeId) (h : Tryz.prog.typeName? 3 u = some "*errors.errorString") : u = 287 :=
 typeName_ptr_named (nm := "errors.errorString") (by rw [Tryz.star]; kernel_rfl) (by kernel_rfl) (by decide) u (by rw [Tryz.star]; exact h)
set_option maxRecDepth 100000 in
theorem laid_step {W : World} {n : String} {g : Nat} {text : List UInt8} {r : List (String × DataW Unit)} {ps : List MemPlace} (hg : Tryz.prog.globalNamed n = some g) (ht : (Tryz.prog.globals[g]?).map (·.type) = some 30)
 (h : DataW.LaidVars Tryz.prog W ((n, .iface "*errors.errorString" (.ptr (.agg [.lit (.string text)]))) :: r) ps)
 (hrows : ∀ b off, MemPlace.cell b off ∈ ps → (∃ c t, W.heap[b]? = some (.cells c t (0, 0))) ∧ ∀ u v, W.cell? ⟨b, off, none⟩ = some (.iface u v) → Value.okWide Tryz.prog W .any 0 u v) :
 ∃ a q, Sent W g a ∧ DataW.LaidVars Tryz.prog W r q ∧ ps = MemPlace.cell g 0 :: MemPlace.cell a.block a.off :: q := by
 obtain ⟨g0, t0, cs0, f0, p0, q0, hg0, ht0, hv0, hd0, hr, e0⟩ := h
 obtain rfl := Option.some.inj (hg.symm.trans hg0)
 obtain rfl := Option.some.inj (ht.symm.trans ht0)
 subst e0
 obtain ⟨l0⟩ := cs0
 have ok0 : ∀ u v, l0 = [.iface u v] → Value.okWide Tryz.prog W .any 0 u v := fun u v e => by
  subst e
  exact (hrows g 0 (by simp [MemPlace.row])).2 u v (by simpa using World.var?_cell hg0 hv0 0)
 obtain ⟨a0, s0, rfl, hc0, hs0, hz0, rfl⟩ := errorString_of_trod Tryz.underlying30 Tryz.rowE Tryz.underlying287 Tryz.underlying307 rfl rfl Tryz.underlying9 Tryz.cellsE Tryz.cellsS hd0 ok0
 refine ⟨a0, q0, ⟨by simpa using World.var?_cell hg0 hv0 0, (hrows a0.block a0.off (by simp [MemPlace.row])).1⟩, hr, ?_⟩
 simp [MemPlace.row]
abbrev LE : Type := String × Nat × List UInt8
def leV (x : LE) : String × DataW Unit := (x.1, .iface "*errors.errorString" (.ptr (.agg [.lit (.string x.2.2)])))
theorem laid_list {W : World} {r : List (String × DataW Unit)} : ∀ (xs : List LE) (ps : List MemPlace), (∀ x ∈ xs, Tryz.prog.globalNamed x.1 = some x.2.1 ∧ (Tryz.prog.globals[x.2.1]?).map (·.type) = some 30) →
 DataW.LaidVars Tryz.prog W (xs.map leV ++ r) ps → (∀ b off, MemPlace.cell b off ∈ ps → (∃ c t, W.heap[b]? = some (.cells c t (0, 0))) ∧ ∀ u v, W.cell? ⟨b, off, none⟩ = some (.iface u v) → Value.okWide Tryz.prog W .any 0 u v) →
 ∃ ads : List Addr, ads.length = xs.length ∧ (∀ (i : Nat) (x : LE) (a : Addr), xs[i]? = some x → ads[i]? = some a → Sent W x.2.1 a) ∧ (∀ a ∈ ads, MemPlace.cell a.block a.off ∈ ps) ∧ (ps.Nodup → ads.Pairwise (· ≠ ·))
 | [], ps, _, _, _ => ⟨[], rfl, fun i x a h => by simp at h, fun a h => by simp at h, fun _ => List.Pairwise.nil⟩
 | x :: xs, ps, hx, h, hr => by
   obtain ⟨a, q, hs, hq, rfl⟩ := laid_step (hx x List.mem_cons_self).1 (hx x List.mem_cons_self).2 h hr
   obtain ⟨ads, h1, h2, h3, h4⟩ := laid_list xs q (fun y hy => hx y (List.mem_cons_of_mem _ hy)) hq (fun b off hb => hr b off (List.mem_cons_of_mem _ (List.mem_cons_of_mem _ hb)))
   refine ⟨a :: ads, by simp [h1], fun i y b hy hb => ?_, fun b hb => ?_, fun hn => ?_⟩
   ·cases i with
    | zero => simp at hy hb; subst hy; subst hb; exact hs
    | succ i => exact h2 i y b (by simpa using hy) (by simpa using hb)
   ·rcases List.mem_cons.1 hb with rfl | hb
    ·exact List.mem_cons_of_mem _ List.mem_cons_self
    ·exact List.mem_cons_of_mem _ (List.mem_cons_of_mem _ (h3 b hb))
   ·have hn2 := (List.nodup_cons.1 hn).2
    have hn3 := List.nodup_cons.1 hn2
    exact List.Pairwise.cons (fun b hb e => hn3.1 (by rw [e]; exact h3 b hb)) (h4 hn3.2)
theorem Tryz.g1 : Tryz.prog.globalNamed "semblance/api.ErrArg" = some 2 := by kernel_rfl
theorem Tryz.t1 : (Tryz.prog.globals[2]?).map (·.type) = some 30 := by kernel_rfl
theorem Tryz.g2 : Tryz.prog.globalNamed "semblance/api.ErrLong" = some 3 := by kernel_rfl
theorem Tryz.t2 : (Tryz.prog.globals[3]?).map (·.type) = some 30 := by kernel_rfl
theorem Tryz.g3 : Tryz.prog.globalNamed "semblance/api.ErrIndex" = some 4 := by kernel_rfl
theorem Tryz.t3 : (Tryz.prog.globals[4]?).map (·.type) = some 30 := by kernel_rfl
theorem Tryz.g4 : Tryz.prog.globalNamed "semblance/api.ErrWord" = some 5 := by kernel_rfl
theorem Tryz.t4 : (Tryz.prog.globals[5]?).map (·.type) = some 30 := by kernel_rfl
theorem Tryz.g5 : Tryz.prog.globalNamed "semblance/api.ErrSyntax" = some 6 := by kernel_rfl
theorem Tryz.t5 : (Tryz.prog.globals[6]?).map (·.type) = some 30 := by kernel_rfl
theorem Tryz.g6 : Tryz.prog.globalNamed "semblance/api.ErrDeep" = some 7 := by kernel_rfl
theorem Tryz.t6 : (Tryz.prog.globals[7]?).map (·.type) = some 30 := by kernel_rfl
theorem Tryz.g7 : Tryz.prog.globalNamed "semblance/api.ErrTwice" = some 8 := by kernel_rfl
theorem Tryz.t7 : (Tryz.prog.globals[8]?).map (·.type) = some 30 := by kernel_rfl
theorem Tryz.g8 : Tryz.prog.globalNamed "semblance/api.ErrUnknown" = some 9 := by kernel_rfl
theorem Tryz.t8 : (Tryz.prog.globals[9]?).map (·.type) = some 30 := by kernel_rfl
theorem Tryz.g9 : Tryz.prog.globalNamed "semblance/api.ErrSilent" = some 10 := by kernel_rfl
theorem Tryz.t9 : (Tryz.prog.globals[10]?).map (·.type) = some 30 := by kernel_rfl
theorem Tryz.g10 : Tryz.prog.globalNamed "semblance/api.ErrUnguarded" = some 11 := by kernel_rfl
theorem Tryz.t10 : (Tryz.prog.globals[11]?).map (·.type) = some 30 := by kernel_rfl
theorem Tryz.g11 : Tryz.prog.globalNamed "semblance/api.ErrSteps" = some 12 := by kernel_rfl
theorem Tryz.t11 : (Tryz.prog.globals[12]?).map (·.type) = some 30 := by kernel_rfl
theorem Tryz.g12 : Tryz.prog.globalNamed "semblance/api.ErrStates" = some 13 := by kernel_rfl
theorem Tryz.t12 : (Tryz.prog.globals[13]?).map (·.type) = some 30 := by kernel_rfl
theorem Tryz.g13 : Tryz.prog.globalNamed "semblance/api.ErrEdges" = some 14 := by kernel_rfl
theorem Tryz.t13 : (Tryz.prog.globals[14]?).map (·.type) = some 30 := by kernel_rfl
theorem Tryz.g14 : Tryz.prog.globalNamed "semblance/api.ErrSystem" = some 0 := by kernel_rfl
theorem Tryz.t14 : (Tryz.prog.globals[0]?).map (·.type) = some 30 := by kernel_rfl
theorem Tryz.g15 : Tryz.prog.globalNamed "semblance/api.ErrClasses" = some 1 := by kernel_rfl
theorem Tryz.t15 : (Tryz.prog.globals[1]?).map (·.type) = some 30 := by kernel_rfl
theorem Tryz.g16 : Tryz.prog.globalNamed "semblance/api.ErrFormula" = some 15 := by kernel_rfl
theorem Tryz.t16 : (Tryz.prog.globals[15]?).map (·.type) = some 30 := by kernel_rfl
theorem Tryz.g17 : Tryz.prog.globalNamed "semblance/api.ErrLimit" = some 16 := by kernel_rfl
theorem Tryz.t17 : (Tryz.prog.globals[16]?).map (·.type) = some 30 := by kernel_rfl
theorem Tryz.g18 : Tryz.prog.globalNamed "semblance/api.ErrNone" = some 17 := by kernel_rfl
theorem Tryz.t18 : (Tryz.prog.globals[17]?).map (·.type) = some 30 := by kernel_rfl
theorem Tryz.g19 : Tryz.prog.globalNamed "semblance/api.ErrScript" = some 18 := by kernel_rfl
theorem Tryz.t19 : (Tryz.prog.globals[18]?).map (·.type) = some 30 := by kernel_rfl
set_option maxRecDepth 100000 in
theorem er_of {W : World} {x1 x2 x3 x4 x5 x6 x7 x8 x9 x10 x11 x12 x13 x14 x15 x16 x17 x18 x19 : List UInt8} {r : List (String × DataW Unit)} (h : laidMet Tryz.prog (("semblance/api.ErrArg", .iface "*errors.errorString" (.ptr (.agg [.lit (.string x1)]))) :: ("semblance/api.ErrLong", .iface "*errors.errorString" (.ptr (.agg [.lit (.string x2)]))) :: ("semblance/api.ErrIndex", .iface "*errors.errorString" (.ptr (.agg [.lit (.string x3)]))) :: ("semblance/api.ErrWord", .iface "*errors.errorString" (.ptr (.agg [.lit (.string x4)]))) :: ("semblance/api.ErrSyntax", .iface "*errors.errorString" (.ptr (.agg [.lit (.string x5)]))) :: ("semblance/api.ErrDeep", .iface "*errors.errorString" (.ptr (.agg [.lit (.string x6)]))) :: ("semblance/api.ErrTwice", .iface "*errors.errorString" (.ptr (.agg [.lit (.string x7)]))) :: ("semblance/api.ErrUnknown", .iface "*errors.errorString" (.ptr (.agg [.lit (.string x8)]))) :: ("semblance/api.ErrSilent", .iface "*errors.errorString" (.ptr (.agg [.lit (.string x9)]))) :: ("semblance/api.ErrUnguarded", .iface "*errors.errorString" (.ptr (.agg [.lit (.string x10)]))) :: ("semblance/api.ErrSteps", .iface "*errors.errorString" (.ptr (.agg [.lit (.string x11)]))) :: ("semblance/api.ErrStates", .iface "*errors.errorString" (.ptr (.agg [.lit (.string x12)]))) :: ("semblance/api.ErrEdges", .iface "*errors.errorString" (.ptr (.agg [.lit (.string x13)]))) :: ("semblance/api.ErrSystem", .iface "*errors.errorString" (.ptr (.agg [.lit (.string x14)]))) :: ("semblance/api.ErrClasses", .iface "*errors.errorString" (.ptr (.agg [.lit (.string x15)]))) :: ("semblance/api.ErrFormula", .iface "*errors.errorString" (.ptr (.agg [.lit (.string x16)]))) :: ("semblance/api.ErrLimit", .iface "*errors.errorString" (.ptr (.agg [.lit (.string x17)]))) :: ("semblance/api.ErrNone", .iface "*errors.errorString" (.ptr (.agg [.lit (.string x18)]))) :: ("semblance/api.ErrScript", .iface "*errors.errorString" (.ptr (.agg [.lit (.string x19)]))) :: r) W) : ∃ e, Er 19 W e := by
 obtain ⟨ps, h0, hnd, r0⟩ := h
 obtain ⟨ads, h1, h2, _, h4⟩ := laid_list [("semblance/api.ErrArg", 2, x1), ("semblance/api.ErrLong", 3, x2), ("semblance/api.ErrIndex", 4, x3), ("semblance/api.ErrWord", 5, x4), ("semblance/api.ErrSyntax", 6, x5), ("semblance/api.ErrDeep", 7, x6), ("semblance/api.ErrTwice", 8, x7), ("semblance/api.ErrUnknown", 9, x8), ("semblance/api.ErrSilent", 10, x9), ("semblance/api.ErrUnguarded", 11, x10), ("semblance/api.ErrSteps", 12, x11), ("semblance/api.ErrStates", 13, x12), ("semblance/api.ErrEdges", 14, x13), ("semblance/api.ErrSystem", 0, x14), ("semblance/api.ErrClasses", 1, x15), ("semblance/api.ErrFormula", 15, x16), ("semblance/api.ErrLimit", 16, x17), ("semblance/api.ErrNone", 17, x18), ("semblance/api.ErrScript", 18, x19)] ps (fun x hx => by
  simp only [List.mem_cons, List.not_mem_nil, or_false] at hx
  rcases hx with rfl | rfl | rfl | rfl | rfl | rfl | rfl | rfl | rfl | rfl | rfl | rfl | rfl | rfl | rfl | rfl | rfl | rfl | rfl
  ·exact ⟨Tryz.g1, Tryz.t1⟩
  ·exact ⟨Tryz.g2, Tryz.t2⟩
  ·exact ⟨Tryz.g3, Tryz.t3⟩
  ·exact ⟨Tryz.g4, Tryz.t4⟩
  ·exact ⟨Tryz.g5, Tryz.t5⟩
  ·exact ⟨Tryz.g6, Tryz.t6⟩
  ·exact ⟨Tryz.g7, Tryz.t7⟩
  ·exact ⟨Tryz.g8, Tryz.t8⟩
  ·exact ⟨Tryz.g9, Tryz.t9⟩
  ·exact ⟨Tryz.g10, Tryz.t10⟩
  ·exact ⟨Tryz.g11, Tryz.t11⟩
  ·exact ⟨Tryz.g12, Tryz.t12⟩
  ·exact ⟨Tryz.g13, Tryz.t13⟩
  ·exact ⟨Tryz.g14, Tryz.t14⟩
  ·exact ⟨Tryz.g15, Tryz.t15⟩
  ·exact ⟨Tryz.g16, Tryz.t16⟩
  ·exact ⟨Tryz.g17, Tryz.t17⟩
  ·exact ⟨Tryz.g18, Tryz.t18⟩
  ·exact ⟨Tryz.g19, Tryz.t19⟩) h0 r0
 have hp := h4 hnd
 have h1' : ads.length = 19 := h1
 have hg : ∀ k, 1 ≤ k → k ≤ 19 → ads[k - 1]? = some (ads.getD (k - 1) ⟨0, 0, none⟩) := fun k _ h19 => by rw [List.getD_eq_getElem?_getD, List.getElem?_eq_getElem (by omega)]; rfl
 refine ⟨fun k => ads.getD (k - 1) ⟨0, 0, none⟩, ⟨fun _ => h2 0 _ _ rfl (hg 1 (by decide) (by decide)), fun _ => h2 1 _ _ rfl (hg 2 (by decide) (by decide)), fun _ => h2 2 _ _ rfl (hg 3 (by decide) (by decide)), fun _ => h2 3 _ _ rfl (hg 4 (by decide) (by decide)), fun _ => h2 4 _ _ rfl (hg 5 (by decide) (by decide)), fun _ => h2 5 _ _ rfl (hg 6 (by decide) (by decide)), fun _ => h2 6 _ _ rfl (hg 7 (by decide) (by decide)), fun _ => h2 7 _ _ rfl (hg 8 (by decide) (by decide)), fun _ => h2 8 _ _ rfl (hg 9 (by decide) (by decide)), fun _ => h2 9 _ _ rfl (hg 10 (by decide) (by decide)), fun _ => h2 10 _ _ rfl (hg 11 (by decide) (by decide)), fun _ => h2 11 _ _ rfl (hg 12 (by decide) (by decide)), fun _ => h2 12 _ _ rfl (hg 13 (by decide) (by decide)), fun _ => h2 13 _ _ rfl (hg 14 (by decide) (by decide)), fun _ => h2 14 _ _ rfl (hg 15 (by decide) (by decide)), fun _ => h2 15 _ _ rfl (hg 16 (by decide) (by decide)), fun _ => h2 16 _ _ rfl (hg 17 (by decide) (by decide)), fun _ => h2 17 _ _ rfl (hg 18 (by decide) (by decide)), fun _ => h2 18 _ _ rfl (hg 19 (by decide) (by decide)), fun i j hi hij hj e => ?_⟩⟩
 have hpi := List.pairwise_iff_getElem.1 hp (i - 1) (j - 1) (by omega) (by omega) (by omega)
 have ei := hg i hi (by omega)
 have ej := hg j (by omega) hj
 rw [List.getElem?_eq_getElem (by omega)] at ei ej
 exact hpi ((Option.some.inj ei).trans (e.symm.trans (Option.some.inj ej).symm))
end Go.Proofs.YtkiapldehlnndaaGreatDoor
/- What the listed package variables give strong's statements: four errors and the handle that errors.As asks. -/
namespace Go.Proofs.YtkiapldehlnndaaGreatDoor
open Go.ChangeShapes Go.WideShapes Go.ChangeAt Go.WideMaps Go.WideElems Go.RowKit
theorem Tryz.et : Tryz.prog.globalNamed "errors.errorType" = some 19 := by kernel_rfl
theorem Tryz.rt : (Tryz.prog.cutTypes.find? (·.1 == "internal/reflectlite.rtype")).map (·.2) = some 200 := by kernel_rfl
theorem Tryz.oneRow : ((List.range Tryz.prog.types.size).filter fun t => Tryz.prog.rowNamed t [101, 114, 114, 111, 114]) = [30] := by kernel_rfl
set_option maxRecDepth 100000 in
theorem handle_of {W : World} (h : handlesMet Tryz.prog [("errors.errorType", Rows.laid_errors_errorType)] W) : W.cell? ⟨19, 0, none⟩ = some (.iface 200 (.agg #[.pointer (some ⟨20, 30, none⟩)])) := by
 obtain ⟨name, u, ty, e1, e2, e3, e4, e5⟩ := h _ (List.mem_singleton.2 rfl)
 have en : name = [101, 114, 114, 111, 114] := (Option.some.inj e1).symm
 subst en
 obtain rfl := Option.some.inj (Tryz.rt.symm.trans e2)
 have hm : ty ∈ (List.range Tryz.prog.types.size).filter fun t => Tryz.prog.rowNamed t [101, 114, 114, 111, 114] := List.mem_filter.2 ⟨List.mem_range.2 e3, e4⟩
 rw [Tryz.oneRow] at hm
 obtain rfl := List.mem_singleton.1 hm
 have hh : typeHandle Tryz.prog 30 = .pointer (some ⟨20, 30, none⟩) := by kernel_rfl
 rw [hh] at e5
 simpa using World.var?_cell Tryz.et e5 0
end Go.Proofs.YtkiapldehlnndaaGreatDoor
/- A list of numbers that came in, as a plain list. -/
namespace Go.Proofs.YtkiapldehlnndaaGreatDoor
open Go.ChangeShapes Go.WideShapes Go.ChangeAt Go.WideMaps Go.WideElems Go.RowKit
theorem Tryz.cIntE : Tryz.prog.cellsOf 3 = 1 := by kernel_rfl
end Go.Proofs.YtkiapldehlnndaaGreatDoor
/- A list of edges, and a system, that came in, out of their reading. -/
namespace Go.Proofs.YtkiapldehlnndaaGreatDoor
open Go.ChangeShapes Go.WideShapes Go.ChangeAt Go.WideMaps Go.WideElems Go.RowKit
theorem Tryz.cEdge : Tryz.prog.cellsOf 72 = 3 := by kernel_rfl
theorem Tryz.cSys : Tryz.prog.cellsOf 24 = 4 := by kernel_rfl
theorem ed_choose {n : Nat} {p : Nat → Sy.Ed → Prop} (h : ∀ i, i < n → ∃ x, p i x) : ∃ f : Nat → Sy.Ed, ∀ i, i < n → p i (f i) := by
 classical
 refine ⟨fun i => if hi : i < n then Classical.choose (h i hi) else (0, 0, 0), fun i hi => ?_⟩
 simp only [hi, dif_pos]
 exact Classical.choose_spec (h i hi)
set_option maxRecDepth 100000 in
theorem edge_in {H : Type} {enc : TypeId × Value → H} {W : World} {fuel i : Nat} {a : Addr} {cs : List Value} {x : DataW H × List MemPlace} (hc : W.cells? 0 (a.add (i * 3)) 3 = some cs) (h : DataW.trod enc Tryz.prog W 0 (fun _ => true) true fuel 72 cs = some x) :
 ∃ z : Sy.Ed, ∀ q u, (BEdges.enc z)[q]? = some u → W.cell? (a.add (i * 3 + q)) = some u := by
 obtain ⟨_, hlen, hcell⟩ := World.cells?_some hc
 obtain ⟨xs, k, hk, _, _, hxl, hf⟩ := DataW.trod_struct Tryz.underlying72 h
 match xs, hxl, cs, hlen with
 | [y0, y1, y2], _, [v0, v1, v2], _ =>
   have g0 := hf 0 _ rfl
   have g1 := hf 1 _ rfl
   have g2 := hf 2 _ rfl
   simp [Tryz.cIntE] at g0 g1 g2
   obtain ⟨z0, e0, _⟩ := DataW.trod_int Tryz.underlying3 g0
   obtain ⟨z1, e1, _⟩ := DataW.trod_int Tryz.underlying3 g1
   obtain ⟨z2, e2, _⟩ := DataW.trod_int Tryz.underlying3 g2
   obtain rfl : v0 = .int .i64 z0 := by simpa using e0
   obtain rfl : v1 = .int .i64 z1 := by simpa using e1
   obtain rfl : v2 = .int .i64 z2 := by simpa using e2
   have c0 := hcell 0 (by omega)
   have c1 := hcell 1 (by omega)
   have c2 := hcell 2 (by omega)
   rw [Go.Deep.add_add] at c0 c1 c2
   refine ⟨(z0, z1, z2), fun q u hq => ?_⟩
   match q, hq with
   | 0, hq => cases hq; simpa using c0
   | 1, hq => cases hq; simpa using c1
   | 2, hq => cases hq; simpa using c2
   | q + 3, hq => simp [BEdges.enc] at hq
set_option maxRecDepth 100000 in
theorem edges_in {H : Type} {enc : TypeId × Value → H} {W : World} {fuel : Nat} {v : Value} {x : DataW H × List MemPlace} (h : DataW.trod enc Tryz.prog W 0 (fun _ => true) true fuel 22 [v] = some x) : ∃ es, HasE W v es ∧ es.length ≤ maxLen := by
 rcases Go.Deep.open_slice Tryz.underlying22 h with ⟨hc, _⟩ | ⟨a, len, cap, m, n, D, Pl, hc, _, hl, hm, hmm, _, hx⟩
 ·obtain rfl : v = .slice none 0 0 := by injection hc
  exact ⟨[], ⟨none, 0, rfl, Nat.le_refl _, none, 0, rfl, fun i s h => by simp [BEdges.C] at h⟩, by simp⟩
 ·obtain rfl : v = .slice (some a) len cap := by injection hc
  have hm' : m = cap := by simpa using hmm
  rw [Tryz.cEdge] at hx
  have each : ∀ i, i < len → ∃ z : Sy.Ed, ∀ q u, (BEdges.enc z)[q]? = some u → W.cell? (a.add (i * 3 + q)) = some u := fun i hi => by
   obtain ⟨cs, h1, h2⟩ := hx i (by omega)
   exact edge_in h1 h2
  obtain ⟨f, hf'⟩ := ed_choose each
  have hL : ((List.range len).map f).length = len := by simp
  refine ⟨(List.range len).map f, ⟨some a, cap, by rw [hL], by rw [hL]; omega, some a, cap, by rw [hL], fun j u hj => ⟨a, rfl, ?_⟩⟩, by rw [hL]; omega⟩
  have hj3 : j < len * 3 := by have := (List.getElem?_eq_some_iff.1 hj).1; rw [BEdges.C_len, hL] at this; exact this
  have hi : j / 3 < len := by omega
  have hz : ((List.range len).map f)[j / 3]? = some (f (j / 3)) := by rw [List.getElem?_map, List.getElem?_range hi]; rfl
  have h9 := BEdges.C_at _ _ _ hz (j % 3) (Nat.mod_lt _ (by decide))
  have e9 : j / 3 * 3 + j % 3 = j := by omega
  rw [e9, hj] at h9
  have h8 := hf' (j / 3) hi (j % 3) u h9.symm
  rw [e9] at h8
  exact h8
set_option maxRecDepth 100000 in
theorem has_sys {H : Type} {enc : TypeId × Value → H} {W : World} {base : Nat} {v : Value} {d : DataW H} {ps : List MemPlace} (hok : Value.okWide Tryz.prog W .any base 24 v) (h : DataW.Trod enc Tryz.prog W 0 (fun _ => true) true 24 v d ps) :
 ∃ (n k s : Int) (u : Value) (es : List Sy.Ed), v = sysV n k s u ∧ HasE W u es ∧ es.length ≤ maxLen := by
 obtain ⟨v0, v1, v2, v3, y0, y1, y2, y3, f, rfl, _, _, t0, t1, t2, t3⟩ := Go.Joins.open_agg4 Tryz.underlying24 (by kernel_rfl) Tryz.cSys hok h
 obtain ⟨z0, e0, _⟩ := DataW.trod_int Tryz.underlying3 t0
 obtain ⟨z1, e1, _⟩ := DataW.trod_int Tryz.underlying3 t1
 obtain ⟨z2, e2, _⟩ := DataW.trod_int Tryz.underlying3 t2
 obtain rfl : v0 = .int .i64 z0 := by simpa using e0
 obtain rfl : v1 = .int .i64 z1 := by simpa using e1
 obtain rfl : v2 = .int .i64 z2 := by simpa using e2
 obtain ⟨es, h1, h2⟩ := edges_in t3
 exact ⟨z0, z1, z2, v3, es, rfl, h1, h2⟩
end Go.Proofs.YtkiapldehlnndaaGreatDoor
