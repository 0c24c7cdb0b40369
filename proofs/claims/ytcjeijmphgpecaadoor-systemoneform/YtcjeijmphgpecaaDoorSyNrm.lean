/- Contract of the program's Normal. -/
import Derived.Test.YtcjeijmphgpecaaDoorSoCpt
namespace Go.Proofs.YtcjeijmphgpecaaDoor
open Go.RowKit Go.Maps
attribute [local go_sem ↓] Go.wp_at_zero Go.wp_at_succ
set_option maxRecDepth 100000 in
theorem compactNil_any (w : World) : Calls Tryd.prog 31 #[.slice none 0 0] w fun r w' => r = .returned (.slice none 0 0) ∧ w' = w := by
  go_enter Tryd.func31, Tryd.ntmps31
  go_wp2
  go_ret
  exact ⟨rfl, rfl⟩
theorem compactO_any (u : Value) (os : List Sy.Ed) (w0 w : World) (hO : BEdges.Own w w0.heap.size u os) (hb : Below w0.heap.size w0 w) (hn : os.length ≤ 1000000) :
    Calls Tryd.prog 31 #[u] w fun r w' => ∃ u', r = .returned u' ∧ BEdges.Own w' w0.heap.size u' (ddup os) ∧ Below w0.heap.size w0 w' := by
  rcases hO.2 with ⟨rfl, h0⟩ | ⟨g, cap, cur, rfl, hg⟩
  · obtain rfl := List.eq_nil_of_length_eq_zero h0
    refine (compactNil_any w).mono fun r w' ⟨hr, hw⟩ => ⟨_, hr, ?_, by rw [hw]; exact hb⟩
    exact World.ownsRow_nil _ _ _ _
  · obtain ⟨rest, hR, _, h3, h4, h5⟩ := row_of_own hO hb
    refine (compact_any g cap os rest w0 w hR h3 h4 hn).mono fun r w' ⟨rest', hr, hR', hr'⟩ => ⟨_, hr, ?_, hR'.bl⟩
    have hl := ddup_len os
    have h := own_of_row (cap := cap) hR' (by simpa using hr') (by simp; omega) h5
    simpa using h
/-- A system is stored. -/
def st4 (w : World) (b : Nat) (x0 x1 x2 x3 : Value) : World := (((w.setCell ⟨b, 0, none⟩ x0).setCell ⟨b, 1, none⟩ x1).setCell ⟨b, 2, none⟩ x2).setCell ⟨b, 3, none⟩ x3
theorem st4_other (w : World) (b i : Nat) (x0 x1 x2 x3 : Value) (h : i ≠ b) : (st4 w b x0 x1 x2 x3).heap[i]? = w.heap[i]? := by
  unfold st4
  rw [set_other _ _ _ _ _ h, set_other _ _ _ _ _ h, set_other _ _ _ _ _ h, set_other _ _ _ _ _ h]
theorem chain_st4 {w : World} {a : Addr} {x : Value} {b : Nat} {cs : Array Value} (h : Chain w 0 0 a [sysB] x) (hb : w.heap[b]? = some (.cells cs 24 (0, 0))) (x0 x1 x2 x3 : Value) : Chain (st4 w b x0 x1 x2 x3) 0 0 a [sysB] x := by
  obtain ⟨c, u, h1, h2, h3⟩ := h
  refine ⟨c, u, h1, ?_, h3⟩
  rw [st4_other _ _ _ _ _ _ _ fun e => by rw [e, hb] at h2; exact absurd h2 (by simp)]
  exact h2
set_option maxRecDepth 100000 in
set_option maxHeartbeats 4000000 in
theorem normal_any {M : Nat} (hS : SortOk M) (n k s : Int) (v : Value) (es : List Sy.Ed) (a : Addr) (w : World) (hA : Sent w 0 a) (hv : BEdges.Has w v es) (hM : es.length ≤ M) (hm : es.length ≤ 1000000) :
    Calls Tryd.prog 9 #[sysV n k s v] w fun r w' => ∃ x u, r = .returned (.tuple #[if Sy.right n k s es = true then sysV n k s u else sysV 0 0 0 (.slice none 0 0), x]) ∧ SErr a w' (Sy.right n k s es) x ∧ (Sy.right n k s es = true → BEdges.Own w' w.heap.size u (Sy.nf es)) ∧ Below w.heap.size w w' := by
  obtain ⟨w1, hw1⟩ : ∃ w1, w1 = (w.alloc (.cells #[.int .i64 n, .int .i64 k, .int .i64 s, v] 24)).alloc (.cells #[.int .i64 0, .int .i64 0, .int .i64 0, .slice none 0 0] 24) := ⟨_, rfl⟩
  have hb1 : Below w.heap.size w w1 := by rw [hw1]; exact ((Below.refl _ _).alloc (Nat.le_refl _) _).alloc (by simp) _
  have hg : w1.heap[w.heap.size + 1]? = some (.cells #[.int .i64 0, .int .i64 0, .int .i64 0, .slice none 0 0] 24 (0, 0)) := by rw [hw1]; exact two_alloc w _ _
  have hg0 : w1.heap[w.heap.size]? = some (.cells #[.int .i64 n, .int .i64 k, .int .i64 s, v] 24 (0, 0)) := by rw [hw1, Below.heap_alloc _ _ _ (by simp)]; exact heap_alloc_new w _
  have hC := check_any n k s v es a w1 (hA.below hb1) (hv.below hb1)
  have hv0 := hv
  obtain ⟨ao, cap, rfl, _⟩ := hv0
  obtain ⟨m, hmm⟩ : ∃ m, m = es.length := ⟨_, rfl⟩
  have H1 : Hid _ := And.intro hC (And.intro hb1 (And.intro hg (And.intro hg0 (And.intro hw1 (And.intro hv hS)))))
  rw [← hmm] at H1 ⊢
  have HM : Hid _ := hmm
  unfold sysV at H1 ⊢
  cases hq : Sy.right n k s es with
  | false =>
    rw [hq] at H1
    clear hC hb1 hg hg0 hw1 hv hS hA hq hmm
    go_enter Tryd.func9, Tryd.ntmps9
    go_wp2_with fail
    rw [← H1.out.2.2.2.2.1]
    refine Calls.mono H1.out.1 ?_
    rintro r w2 ⟨x, rfl, hx, hb2⟩
    have hch : Chain w2 0 0 a [sysB] x := by simpa [SErr] using hx
    obtain ⟨T, u, rfl⟩ := hch.iface
    have hg2 := (hb2.block _ (t_lt H1.out.2.2.1)).trans H1.out.2.2.1
    obtain ⟨y0, y1, y2, y3⟩ := four_cells hg2
    have z0 := blk_free hg2 0
    have z1 := blk_free hg2 1
    have z2 := blk_free hg2 2
    have z3 := blk_free hg2 3
    have hbw := H1.out.2.1.trans (hb2.mono H1.out.2.1.size)
    have H2 : Hid _ := And.intro hch (And.intro hbw hg2)
    clear hb2 hg2 hbw hch hx
    go_wp2_with fail
    have hgf := four_set (a0 := .int .i64 0) (a1 := .int .i64 0) (a2 := .int .i64 0) (a3 := .slice none 0 0) H2.out.2.2
    have hbf := four_below H2.out.2.1 (b := w.heap.size + 1) (by omega) (.int .i64 0) (.int .i64 0) (.int .i64 0) (.slice none 0 0)
    have hcf := chain_st4 H2.out.1 H2.out.2.2 (.int .i64 0) (.int .i64 0) (.int .i64 0) (.slice none 0 0)
    unfold st4 at hcf
    generalize ((((w2.setCell ⟨w.heap.size + 1, 0, none⟩ (.int .i64 0)).setCell ⟨w.heap.size + 1, 1, none⟩ (.int .i64 0)).setCell ⟨w.heap.size + 1, 2, none⟩ (.int .i64 0)).setCell ⟨w.heap.size + 1, 3, none⟩ (.slice none 0 0)) = wf at hgf hbf hcf ⊢
    clear y0 y1 y2 y3 z0 z1 z2 z3
    obtain ⟨c0, c1, c2, c3⟩ := four_cells hgf
    exact bodyPost_ret (v := .tuple #[.agg #[.int .i64 0, .int .i64 0, .int .i64 0, .slice none 0 0], .iface T u]) (by simp [results, Tryd.results9, go_sem, c0, c1, c2, c3]) rfl (by first | exact ⟨.iface T u, rfl, by simpa [SErr] using hcf, hbf⟩ | exact ⟨.iface T u, rfl, by simpa [SErr] using hcf, .slice none 0 0, fun h => by cases h, hbf⟩ | exact ⟨.iface T u, .slice none 0 0, rfl, by simpa [SErr] using hcf, fun h => by cases h, hbf⟩)
  | true =>
    rw [hq] at H1
    clear hC hb1 hg hg0 hw1 hv hS hA hq hmm
    go_enter Tryd.func9, Tryd.ntmps9
    go_wp2_with fail
    rw [← H1.out.2.2.2.2.1]
    refine Calls.mono H1.out.1 ?_
    rintro r w2 ⟨x, rfl, hx, hb2⟩
    obtain rfl : x = .nilIface := by simpa [SErr] using hx
    have hg2 := (hb2.block _ (t_lt H1.out.2.2.1)).trans H1.out.2.2.1
    have hg3 := (hb2.block _ (t_lt H1.out.2.2.2.1)).trans H1.out.2.2.2.1
    obtain ⟨x0, x1, x2, x3⟩ := four_cells hg3
    have hbw := H1.out.2.1.trans (hb2.mono H1.out.2.1.size)
    have hO := ordered_any H1.out.2.2.2.2.2.2 _ _ forward_at (.slice ao m cap) es w2 (by omega) hm (H1.out.2.2.2.2.2.1.below hbw)
    have H2 : Hid _ := And.intro hO (And.intro hbw (And.intro hg2 hg3))
    clear hb2 hg2 hg3 hbw hx hO
    go_wp2_with fail
    refine Calls.mono H2.out.1 ?_
    rintro r w3 ⟨u3, os, rfl, hio, hO3, hb3⟩
    have hlo : os.length = es.length := hio.1.length_eq
    have hCp := compactO_any u3 os w2 w3 hO3 hb3 (by omega)
    rw [ddup_nf hio] at hCp
    have H3 : Hid _ := hCp
    obtain ⟨a3, c3, rfl⟩ := row_shape hO3
    clear hio hO3 hb3 hCp hlo hM hm
    go_wp2_with fail
    refine Calls.mono H3.out ?_
    rintro r w4 ⟨u4, rfl, hO4, hb4⟩
    obtain ⟨a4, c4, rfl⟩ := row_shape hO4
    have hg2 := (hb4.block _ (t_lt H2.out.2.2.1)).trans H2.out.2.2.1
    have hg3 := (hb4.block _ (t_lt H2.out.2.2.2)).trans H2.out.2.2.2
    obtain ⟨y0, y1, y2, y3⟩ := four_cells hg2
    clear x0 x1 x2 x3
    obtain ⟨x0, x1, x2, x3⟩ := four_cells hg3
    have z0 := blk_free hg2 0
    have z1 := blk_free hg2 1
    have z2 := blk_free hg2 2
    have z3 := blk_free hg2 3
    have z4 := blk_free hg3 3
    have nn : ¬ w.heap.size + 1 = w.heap.size := by omega
    have nn2 : ¬ w.heap.size = w.heap.size + 1 := by omega
    have hbw := H2.out.2.1.trans (hb4.mono H2.out.2.1.size)
    have H4 : Hid _ := And.intro hO4 (And.intro hbw (And.intro hg2 (And.intro hg3 H2.out.2.1.size)))
    clear hO4 hb4 hg2 hg3 hbw
    go_wp2_with fail
    have hgm : (w4.setCell ⟨w.heap.size, 3, none⟩ (.slice a4 (Sy.nf es).length c4)).heap[w.heap.size + 1]? = some (.cells #[.int .i64 0, .int .i64 0, .int .i64 0, .slice none 0 0] 24 (0, 0)) := (set_other _ _ _ _ _ nn).trans H4.out.2.2.1
    have hbm : Below w.heap.size w (w4.setCell ⟨w.heap.size, 3, none⟩ (.slice a4 (Sy.nf es).length c4)) := H4.out.2.1.setCell (Nat.le_refl _) _
    have hgf := four_set (a0 := .int .i64 n) (a1 := .int .i64 k) (a2 := .int .i64 s) (a3 := .slice a4 (Sy.nf es).length c4) hgm
    have hbf := four_below hbm (b := w.heap.size + 1) (by omega) (.int .i64 n) (.int .i64 k) (.int .i64 s) (.slice a4 (Sy.nf es).length c4)
    have hOf : BEdges.Own (((((w4.setCell ⟨w.heap.size, 3, none⟩ (.slice a4 (Sy.nf es).length c4)).setCell ⟨w.heap.size + 1, 0, none⟩ (.int .i64 n)).setCell ⟨w.heap.size + 1, 1, none⟩ (.int .i64 k)).setCell ⟨w.heap.size + 1, 2, none⟩ (.int .i64 s)).setCell ⟨w.heap.size + 1, 3, none⟩ (.slice a4 (Sy.nf es).length c4)) w.heap.size (.slice a4 (Sy.nf es).length c4) (Sy.nf es) := row_base (trow_at H4.out.1 fun b hb => by
      have h1 := own_bk H4.out.1 H4.out.2.2.1 (by decide)
      have h2 := own_bk H4.out.1 H4.out.2.2.2.1 (by decide)
      have n1 : b ≠ w.heap.size + 1 := fun e => h1 (e ▸ hb)
      have n2 : b ≠ w.heap.size := fun e => h2 (e ▸ hb)
      rw [set_other _ _ _ _ _ n1, set_other _ _ _ _ _ n1, set_other _ _ _ _ _ n1, set_other _ _ _ _ _ n1, set_other _ _ _ _ _ n2]) H4.out.2.2.2.2
    generalize (((((w4.setCell ⟨w.heap.size, 3, none⟩ (.slice a4 (Sy.nf es).length c4)).setCell ⟨w.heap.size + 1, 0, none⟩ (.int .i64 n)).setCell ⟨w.heap.size + 1, 1, none⟩ (.int .i64 k)).setCell ⟨w.heap.size + 1, 2, none⟩ (.int .i64 s)).setCell ⟨w.heap.size + 1, 3, none⟩ (.slice a4 (Sy.nf es).length c4)) = wf at hgf hbf hOf ⊢
    clear y0 y1 y2 y3 z0 z1 z2 z3 z4 x0 x1 x2 x3
    obtain ⟨c0, c1, c2, c3⟩ := four_cells hgf
    exact bodyPost_ret (v := .tuple #[.agg #[.int .i64 n, .int .i64 k, .int .i64 s, .slice a4 (Sy.nf es).length c4], .nilIface]) (by simp [results, Tryd.results9, go_sem, c0, c1, c2, c3]) rfl ⟨.nilIface, .slice a4 (Sy.nf es).length c4, rfl, by simp [SErr], hOf, hbf⟩
end Go.Proofs.YtcjeijmphgpecaaDoor
