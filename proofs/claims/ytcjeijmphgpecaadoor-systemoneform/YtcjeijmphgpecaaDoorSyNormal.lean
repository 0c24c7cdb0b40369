/- Contracts of the document's Check and Normal of systems. -/
import Derived.Test.YtcjeijmphgpecaaDoorSySorted
import Derived.Test.YtcjeijmphgpecaaDoorErTold
namespace Go.Proofs.YtcjeijmphgpecaaDoor
open Go.RowKit Go.Maps
attribute [local go_sem ↓] Go.wp_at_zero Go.wp_at_succ
def sysB : ByteArray := ⟨#[115, 121, 115, 116, 101, 109]⟩
def sysB1 : ByteArray := ⟨#[115, 121, 115, 116, 101, 109, 32]⟩
theorem sys_join : joinS ⟨#[]⟩ [sysB] = sysB1 := by decide
set_option maxHeartbeats 1000000 in
theorem badSys (k : Int) (w : World) : Calls Tryd.prog 30 #[.string ⟨#[115, 121, 115, 116, 101, 109]⟩, .int .i64 k] w fun e w' => e = .returned (.agg #[.int .i64 k, .int .i64 0, .int .i64 0, .string sysB1]) ∧ Below w.heap.size w w' := by
  have zs : (⟨#[115, 121, 115, 116, 101, 109]⟩ ++ ⟨#[32]⟩ : ByteArray) = sysB1 := by decide
  go_enter Tryd.func30, Tryd.ntmps30
  go_wp2
  exact bodyPost_ret (v := .agg #[.int .i64 k, .int .i64 0, .int .i64 0, .string sysB1]) (by simp [results, Tryd.results30, go_sem]) rfl ⟨rfl, (Below.refl _ _).alloc (Nat.le_refl _) _⟩
theorem four_set {w : World} {b : Nat} {x0 x1 x2 x3 a0 a1 a2 a3 : Value} {t : TypeId} (h : w.heap[b]? = some (.cells #[x0, x1, x2, x3] t (0, 0))) : ((((w.setCell ⟨b, 0, none⟩ a0).setCell ⟨b, 1, none⟩ a1).setCell ⟨b, 2, none⟩ a2).setCell ⟨b, 3, none⟩ a3).heap[b]? = some (.cells #[a0, a1, a2, a3] t (0, 0)) :=
  heap_setCell_same _ b 3 _ _ _ (heap_setCell_same _ b 2 _ _ _ (heap_setCell_same _ b 1 _ _ _ (heap_setCell_same w b 0 _ _ _ h)))
theorem four_below {B : Nat} {w w2 : World} {b : Nat} (h : Below B w w2) (hb : B ≤ b) (a0 a1 a2 a3 : Value) : Below B w ((((w2.setCell ⟨b, 0, none⟩ a0).setCell ⟨b, 1, none⟩ a1).setCell ⟨b, 2, none⟩ a2).setCell ⟨b, 3, none⟩ a3) := (((h.setCell hb _).setCell hb _).setCell hb _).setCell hb _
/-- The document's answer to Check. -/
def chkV (ok : Bool) : Value := if ok then .agg #[.int .i64 0, .int .i64 0, .int .i64 0, .string ⟨#[]⟩] else .agg #[.int .i64 14, .int .i64 0, .int .i64 0, .string sysB1]
set_option maxRecDepth 100000 in
set_option maxHeartbeats 2000000 in
theorem refCheck_any (n k s : Int) (v : Value) (es : List Sy.Ed) (w : World) (hv : BEdges.Has w v es) :
    Calls Tryd.prog 8 #[sysV n k s v] w fun e w' => e = .returned (chkV (Sy.right n k s es)) ∧ Below w.heap.size w w' := by
  obtain ⟨w1, hw1⟩ : ∃ w1, w1 = (w.alloc (.cells #[.int .i64 n, .int .i64 k, .int .i64 s, v] 24)).alloc (.cells #[.int .i64 0, .int .i64 0, .int .i64 0, .string ⟨#[]⟩] 28) := ⟨_, rfl⟩
  have hb1 : Below w.heap.size w w1 := by rw [hw1]; exact ((Below.refl _ _).alloc (Nat.le_refl _) _).alloc (by simp) _
  have hR := right_any n k s v es w1 (hv.below hb1)
  have hg : w1.heap[w.heap.size + 1]? = some (.cells #[.int .i64 0, .int .i64 0, .int .i64 0, .string ⟨#[]⟩] 28 (0, 0)) := by rw [hw1]; exact two_alloc w _ _
  have H1 : Hid _ := And.intro hR (And.intro hb1 (And.intro hg hw1))
  obtain ⟨ao, cap, rfl, _⟩ := hv
  clear hR hb1 hg hw1
  unfold sysV at H1 ⊢
  cases hr : Sy.right n k s es with
  | true =>
    rw [hr] at H1
    clear hr
    go_enter Tryd.func8, Tryd.ntmps8
    go_wp2_with fail
    rw [← H1.out.2.2.2]
    refine Calls.mono H1.out.1 ?_
    rintro e w2 ⟨rfl, hb2⟩
    have hg2 := (hb2.block _ (t_lt H1.out.2.2.1)).trans H1.out.2.2.1
    obtain ⟨y0, y1, y2, y3⟩ := four_cells hg2
    have z0 := blk_free hg2 0
    have z1 := blk_free hg2 1
    have z2 := blk_free hg2 2
    have z3 := blk_free hg2 3
    have H2 : Hid _ := And.intro (H1.out.2.1.trans (hb2.mono H1.out.2.1.size)) hg2
    clear hb2 hg2
    go_wp2_with fail
    have hgf := four_set (a0 := .int .i64 0) (a1 := .int .i64 0) (a2 := .int .i64 0) (a3 := .string ⟨#[]⟩) H2.out.2
    have hbf := four_below H2.out.1 (b := w.heap.size + 1) (by omega) (.int .i64 0) (.int .i64 0) (.int .i64 0) (.string ⟨#[]⟩)
    generalize ((((w2.setCell ⟨w.heap.size + 1, 0, none⟩ (.int .i64 0)).setCell ⟨w.heap.size + 1, 1, none⟩ (.int .i64 0)).setCell ⟨w.heap.size + 1, 2, none⟩ (.int .i64 0)).setCell ⟨w.heap.size + 1, 3, none⟩ (.string ⟨#[]⟩)) = wf at hgf hbf ⊢
    obtain ⟨c0, c1, c2, c3⟩ := four_cells hgf
    exact bodyPost_ret (v := .agg #[.int .i64 0, .int .i64 0, .int .i64 0, .string ⟨#[]⟩]) (by simp [results, Tryd.results8, go_sem, c0, c1, c2, c3]) rfl ⟨rfl, hbf⟩
  | false =>
    rw [hr] at H1
    clear hr
    go_enter Tryd.func8, Tryd.ntmps8
    go_wp2_with fail
    rw [← H1.out.2.2.2]
    refine Calls.mono H1.out.1 ?_
    rintro e w2 ⟨rfl, hb2⟩
    have hg2 := (hb2.block _ (t_lt H1.out.2.2.1)).trans H1.out.2.2.1
    have H2 : Hid _ := And.intro (H1.out.2.1.trans (hb2.mono H1.out.2.1.size)) hg2
    clear hb2 hg2
    go_wp2_with fail
    refine (badSys 14 w2).mono ?_
    rintro e w3 ⟨rfl, hb3⟩
    have hg3 := (hb3.block _ (t_lt H2.out.2)).trans H2.out.2
    obtain ⟨y0, y1, y2, y3⟩ := four_cells hg3
    have z0 := blk_free hg3 0
    have z1 := blk_free hg3 1
    have z2 := blk_free hg3 2
    have z3 := blk_free hg3 3
    have H3 : Hid _ := And.intro (H2.out.1.trans (hb3.mono H2.out.1.size)) hg3
    clear hb3 hg3
    go_wp2_with fail
    have hgf := four_set (a0 := .int .i64 14) (a1 := .int .i64 0) (a2 := .int .i64 0) (a3 := .string sysB1) H3.out.2
    have hbf := four_below H3.out.1 (b := w.heap.size + 1) (by omega) (.int .i64 14) (.int .i64 0) (.int .i64 0) (.string sysB1)
    generalize ((((w3.setCell ⟨w.heap.size + 1, 0, none⟩ (.int .i64 14)).setCell ⟨w.heap.size + 1, 1, none⟩ (.int .i64 0)).setCell ⟨w.heap.size + 1, 2, none⟩ (.int .i64 0)).setCell ⟨w.heap.size + 1, 3, none⟩ (.string sysB1)) = wf at hgf hbf ⊢
    clear y0 y1 y2 y3 z0 z1 z2 z3
    obtain ⟨c0, c1, c2, c3⟩ := four_cells hgf
    exact bodyPost_ret (v := .agg #[.int .i64 14, .int .i64 0, .int .i64 0, .string sysB1]) (by simp [results, Tryd.results8, go_sem, c0, c1, c2, c3]) rfl ⟨rfl, hbf⟩
set_option maxRecDepth 100000 in
set_option maxHeartbeats 2000000 in
theorem refNormal_any (n k s : Int) (v : Value) (es : List Sy.Ed) (w : World) (hv : HasE w v es) (hm : es.length ≤ 100000) :
    Calls Tryd.prog 14 #[sysV n k s v] w fun e w' => ∃ u, e = .returned (sysV n k s u) ∧ BEdges.Own w' w.heap.size u (Sy.nf es) ∧ Below w.heap.size w w' := by
  obtain ⟨w1, hw1⟩ : ∃ w1, w1 = (w.alloc (.cells #[.int .i64 n, .int .i64 k, .int .i64 s, v] 24)).alloc (.cells #[.int .i64 0, .int .i64 0, .int .i64 0, .slice none 0 0] 24) := ⟨_, rfl⟩
  have hb1 : Below w.heap.size w w1 := by rw [hw1]; exact ((Below.refl _ _).alloc (Nat.le_refl _) _).alloc (by simp) _
  have hS := refSorted_any v es w1 (hv.below hb1) hm
  have hg : w1.heap[w.heap.size + 1]? = some (.cells #[.int .i64 0, .int .i64 0, .int .i64 0, .slice none 0 0] 24 (0, 0)) := by rw [hw1]; exact two_alloc w _ _
  have hg0 : w1.heap[w.heap.size]? = some (.cells #[.int .i64 n, .int .i64 k, .int .i64 s, v] 24 (0, 0)) := by rw [hw1, Below.heap_alloc _ _ _ (by simp)]; exact heap_alloc_new w _
  have H1 : Hid _ := And.intro hS (And.intro hb1 (And.intro hg (And.intro hg0 hw1)))
  obtain ⟨ao, cap, rfl, _⟩ := hv
  unfold SortedAt at H1
  unfold sysV
  clear hS hb1 hg hg0 hw1
  go_enter Tryd.func14, Tryd.ntmps14
  go_wp2_with fail
  rw [← H1.out.2.2.2.2]
  refine Calls.mono H1.out.1 ?_
  rintro e w2 ⟨u, rfl, hO, hb2⟩
  obtain ⟨ao2, cap2, rfl⟩ := row_shape hO
  have hg2 := (hb2.block _ (t_lt H1.out.2.2.1)).trans H1.out.2.2.1
  have hg3 := (hb2.block _ (t_lt H1.out.2.2.2.1)).trans H1.out.2.2.2.1
  obtain ⟨y0, y1, y2, y3⟩ := four_cells hg2
  obtain ⟨x0, x1, x2, x3⟩ := four_cells hg3
  have z0 := blk_free hg2 0
  have z1 := blk_free hg2 1
  have z2 := blk_free hg2 2
  have z3 := blk_free hg2 3
  have z4 := blk_free hg3 3
  have nn : ¬ w.heap.size + 1 = w.heap.size := by omega
  have nn2 : ¬ w.heap.size = w.heap.size + 1 := by omega
  have hbw := H1.out.2.1.trans (hb2.mono H1.out.2.1.size)
  have H2 : Hid _ := And.intro hO (And.intro hbw (And.intro hg2 (And.intro hg3 H1.out.2.1.size)))
  clear hb2 hg2 hg3 hbw hO
  go_wp2_with fail
  have hgm : (w2.setCell ⟨w.heap.size, 3, none⟩ (.slice ao2 (Sy.nf es).length cap2)).heap[w.heap.size + 1]? = some (.cells #[.int .i64 0, .int .i64 0, .int .i64 0, .slice none 0 0] 24 (0, 0)) := (set_other _ _ _ _ _ nn).trans H2.out.2.2.1
  have hbm : Below w.heap.size w (w2.setCell ⟨w.heap.size, 3, none⟩ (.slice ao2 (Sy.nf es).length cap2)) := H2.out.2.1.setCell (Nat.le_refl _) _
  have hgf := four_set (a0 := .int .i64 n) (a1 := .int .i64 k) (a2 := .int .i64 s) (a3 := .slice ao2 (Sy.nf es).length cap2) hgm
  have hbf := four_below hbm (b := w.heap.size + 1) (by omega) (.int .i64 n) (.int .i64 k) (.int .i64 s) (.slice ao2 (Sy.nf es).length cap2)
  have hOf : BEdges.Own (((((w2.setCell ⟨w.heap.size, 3, none⟩ (.slice ao2 (Sy.nf es).length cap2)).setCell ⟨w.heap.size + 1, 0, none⟩ (.int .i64 n)).setCell ⟨w.heap.size + 1, 1, none⟩ (.int .i64 k)).setCell ⟨w.heap.size + 1, 2, none⟩ (.int .i64 s)).setCell ⟨w.heap.size + 1, 3, none⟩ (.slice ao2 (Sy.nf es).length cap2)) w.heap.size (.slice ao2 (Sy.nf es).length cap2) (Sy.nf es) := row_base (trow_at H2.out.1 fun b hb => by
    have h1 := own_bk H2.out.1 H2.out.2.2.1 (by decide)
    have h2 := own_bk H2.out.1 H2.out.2.2.2.1 (by decide)
    have e1 : b ≠ w.heap.size + 1 := fun e => h1 (by rw [← e]; exact hb)
    have e2 : b ≠ w.heap.size := fun e => h2 (by rw [← e]; exact hb)
    rw [set_other _ _ _ _ _ e1, set_other _ _ _ _ _ e1, set_other _ _ _ _ _ e1, set_other _ _ _ _ _ e1, set_other _ _ _ _ _ e2]) H2.out.2.2.2.2
  generalize (((((w2.setCell ⟨w.heap.size, 3, none⟩ (.slice ao2 (Sy.nf es).length cap2)).setCell ⟨w.heap.size + 1, 0, none⟩ (.int .i64 n)).setCell ⟨w.heap.size + 1, 1, none⟩ (.int .i64 k)).setCell ⟨w.heap.size + 1, 2, none⟩ (.int .i64 s)).setCell ⟨w.heap.size + 1, 3, none⟩ (.slice ao2 (Sy.nf es).length cap2)) = wf at hgf hbf hOf ⊢
  clear y0 y1 y2 y3 z0 z1 z2 z3 z4 x0 x1 x2 x3
  obtain ⟨c0, c1, c2, c3⟩ := four_cells hgf
  exact bodyPost_ret (v := .agg #[.int .i64 n, .int .i64 k, .int .i64 s, .slice ao2 (Sy.nf es).length cap2]) (by simp [results, Tryd.results14, go_sem, c0, c1, c2, c3]) rfl ⟨_, rfl, hOf, hbf⟩
end Go.Proofs.YtcjeijmphgpecaaDoor
