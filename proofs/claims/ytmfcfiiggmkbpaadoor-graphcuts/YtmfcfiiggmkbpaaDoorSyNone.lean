/- A graph without a state: nil, or the zero one. -/
import Derived.Test.YtmfcfiiggmkbpaaDoorPart11
namespace Go.Proofs.YtmfcfiiggmkbpaaDoor
open Go.RowKit Go.Maps
attribute [local go_sem ↓] Go.wp_at_zero Go.wp_at_succ
def gZ : Array Value := #[.int .i64 0, .int .i64 0, .int .i64 0, .slice none 0 0, .slice none 0 0, .slice none 0 0, .slice none 0 0]
/-- No graph. -/
inductive NoG (w : World) : Value → Prop
  | nil : NoG w (.pointer none)
  | zero (b : Nat) (h : w.heap[b]? = some (.cells gZ 32 (0, 0))) : NoG w (.pointer (some ⟨b, 0, none⟩))
theorem NoG.below {w w' : World} {v : Value} (h : NoG w v) (hb : Below w.heap.size w w') : NoG w' v := by
  cases h with
  | nil => exact .nil
  | zero b h => exact .zero b (res_up9 hb h)
theorem Tryd.eqN (w : World) : (binOp BinOp.eql 26 (.pointer none) (.pointer none)).run Tryd.prog w = .ok (.bool true) w := by kernel_rfl
set_option maxRecDepth 100000 in
theorem states0 (v : Value) (w : World) (h : NoG w v) : Calls Tryd.prog 10 #[v] w fun r w' => r = .returned (.int .i64 0) ∧ w' = w := by
  have hN := Tryd.eqN
  cases h with
  | nil =>
    go_enter Tryd.func10, Tryd.ntmps10
    go_wp2
    go_ret
    exact ⟨rfl, rfl⟩
  | zero b h =>
    have c0 := cell0_of (k := 0) h rfl
    have hq := Tryd.eqG b
    clear h hN
    go_enter Tryd.func10, Tryd.ntmps10
    go_wp2
    go_ret
    exact ⟨rfl, rfl⟩
set_option maxRecDepth 100000 in
theorem labels0 (v : Value) (w : World) (h : NoG w v) : Calls Tryd.prog 11 #[v] w fun r w' => r = .returned (.int .i64 0) ∧ w' = w := by
  have hN := Tryd.eqN
  cases h with
  | nil =>
    go_enter Tryd.func11, Tryd.ntmps11
    go_wp2
    go_ret
    exact ⟨rfl, rfl⟩
  | zero b h =>
    have c0 := cell0_of (k := 1) h rfl
    have hq := Tryd.eqG b
    clear h hN
    go_enter Tryd.func11, Tryd.ntmps11
    go_wp2
    go_ret
    exact ⟨rfl, rfl⟩
set_option maxRecDepth 100000 in
theorem reach0 (v : Value) (w : World) (h : NoG w v) : Calls Tryd.prog 13 #[v] w fun r w' => r = .returned (.slice none 0 0) ∧ w' = w := by
  have HS : Hid _ := states0 v w h
  clear h
  go_enter Tryd.func13, Tryd.ntmps13
  go_wp2_with fail
  refine Calls.mono HS.out ?_
  rintro r w1 ⟨rfl, hw⟩
  obtain rfl := hw.symm
  go_wp2_with fail
  go_ret
  exact ⟨rfl, rfl⟩
set_option maxRecDepth 100000 in
theorem edges0 (v : Value) (w : World) (h : NoG w v) : Calls Tryd.prog 14 #[v] w fun r w' => r = .returned (.slice none 0 0) ∧ w' = w := by
  have HS : Hid _ := states0 v w h
  clear h
  go_enter Tryd.func14, Tryd.ntmps14
  go_wp2_with fail
  refine Calls.mono HS.out ?_
  rintro r w1 ⟨rfl, hw⟩
  obtain rfl := hw.symm
  go_wp2_with fail
  go_loopg [3, 9] 1 (fun q uv iv wr => uv = .slice none 0 0 ∧ iv = .int .i64 0 ∧ wr = w)
  case atStart => exact ⟨rfl, rfl, rfl⟩
  case round =>
    obtain ⟨rfl, rfl, rfl⟩ := hrel
    go_wp2_with fail
    go_ret
    exact ⟨rfl, rfl⟩
set_option maxRecDepth 100000 in
theorem degree0 (v : Value) (w : World) (h : NoG w v) : Calls Tryd.prog 12 #[v] w fun r w' => r = .returned (.int .i64 0) ∧ w' = w := by
  have HS : Hid _ := states0 v w h
  clear h
  go_enter Tryd.func12, Tryd.ntmps12
  go_wp2_with fail
  refine Calls.mono HS.out ?_
  rintro r w1 ⟨rfl, hw⟩
  obtain rfl := hw.symm
  go_wp2_with fail
  go_loopg [3, 7] 1 (fun q dv iv wr => dv = .int .i64 0 ∧ iv = .int .i64 0 ∧ wr = w)
  case atStart => exact ⟨rfl, rfl, rfl⟩
  case round =>
    obtain ⟨rfl, rfl, rfl⟩ := hrel
    go_wp2_with fail
    go_ret
    exact ⟨rfl, rfl⟩
set_option maxRecDepth 100000 in
theorem out0 (i : Int) (w : World) : Calls Tryd.prog 15 #[.pointer none, .int .i64 i] w fun r w' => r = .returned (.slice none 0 0) ∧ w' = w := by
  have hN := Tryd.eqN
  go_enter Tryd.func15, Tryd.ntmps15
  go_wp2
  go_ret
  exact ⟨rfl, rfl⟩
set_option maxRecDepth 100000 in
set_option maxHeartbeats 4000000 in
theorem cut0 (v : Value) (w : World) (h : NoG w v) : Calls Tryd.prog 8 #[v] w fun r w' => ∃ a, r = .returned (.tuple #[.agg #[.int .i64 0, .int .i64 0, .int .i64 0, .slice none 0 0], .slice a 0 0]) ∧ Below w.heap.size w w' := by
  obtain ⟨w1, hw1⟩ : ∃ w1, w1 = w.alloc (.cells #[.int .i64 0, .int .i64 0, .int .i64 0, .slice none 0 0] 24) := ⟨_, rfl⟩
  have hb1 : Below w.heap.size w w1 := by rw [hw1]; exact (Below.refl _ _).alloc (Nat.le_refl _) _
  have hg1 : w1.heap[w.heap.size]? = some (.cells #[.int .i64 0, .int .i64 0, .int .i64 0, .slice none 0 0] 24 (0, 0)) := by rw [hw1]; exact heap_alloc_new w _
  obtain ⟨w2, hw2⟩ : ∃ w2, w2 = w1.alloc (.cells #[.int .i64 (-1)] 3) := ⟨_, rfl⟩
  have hb2 : Below w1.heap.size w1 w2 := by rw [hw2]; exact (Below.refl _ _).alloc (Nat.le_refl _) _
  have hg2 : w2.heap[w1.heap.size]? = some (.cells #[.int .i64 (-1)] 3 (0, 0)) := by rw [hw2]; exact heap_alloc_new w1 _
  have hRp := repeat_any w1.heap.size 0 w2 (by omega) (cell0_of hg2 rfl)
  have H1 : Hid _ := And.intro hw1 (And.intro (reach0 v w1 (h.below hb1)) (And.intro hw2 (And.intro (states0 v w2 (h.below (bel9 hb2 hb1))) (And.intro hRp (And.intro (bel9 hb2 hb1) (And.intro (res_up9 hb2 hg1) h))))))
  clear hw1 hb1 hg1 hw2 hb2 hg2 hRp h
  go_enter Tryd.func8, Tryd.ntmps8
  go_wp2_with fail
  rw [← H1.out.1]
  refine Calls.mono H1.out.2.1 ?_
  rintro r wz ⟨rfl, hwz⟩
  obtain rfl := hwz.symm
  clear hwz
  go_wp2_with fail
  rw [← H1.out.2.2.1]
  refine Calls.mono H1.out.2.2.2.1 ?_
  rintro r wz ⟨rfl, hwz⟩
  obtain rfl := hwz.symm
  clear hwz
  go_wp2_with fail
  refine Calls.mono H1.out.2.2.2.2.1 ?_
  rintro r w3 ⟨ga, rfl, hA⟩
  have hb03 : Below w.heap.size w w3 := bel9 hA.bl H1.out.2.2.2.2.2.1
  have hg3 := res_up9 hA.bl H1.out.2.2.2.2.2.2.1
  have H3 : Hid _ := And.intro (labels0 v w3 (H1.out.2.2.2.2.2.2.2.below hb03)) (And.intro hb03 hg3)
  clear hA hb03 hg3 H1
  go_wp2_with fail
  go_loopg [21] 1 (fun q iv wr => iv = .int .i64 0 ∧ wr = w3)
  case atStart => exact ⟨rfl, rfl⟩
  case round =>
    obtain ⟨rfl, hwr⟩ := hrel
    obtain rfl := hwr.symm
    clear hwr
    go_wp2_with fail
    refine Calls.mono H3.out.1 ?_
    rintro r wz ⟨rfl, hwz⟩
    obtain rfl := hwz.symm
    clear hwz
    obtain ⟨w4, hw4⟩ : ∃ w4, w4 = w3.alloc (.cells #[.int .i64 0, .int .i64 0, .int .i64 0, .slice none 0 0] 24) := ⟨_, rfl⟩
    have hb4 : Below w3.heap.size w3 w4 := by rw [hw4]; exact (Below.refl _ _).alloc (Nat.le_refl _) _
    have hg4 : w4.heap[w3.heap.size]? = some (.cells #[.int .i64 0, .int .i64 0, .int .i64 0, .slice none 0 0] 24 (0, 0)) := by rw [hw4]; exact heap_alloc_new w3 _
    have hgr := res_up9 hb4 H3.out.2.2
    have y0 := cell0_of (k := 0) hg4 rfl
    have y1 := cell0_of (k := 1) hg4 rfl
    have y2 := cell0_of (k := 2) hg4 rfl
    have y3 := cell0_of (k := 3) hg4 rfl
    have r0 := cell0_of (k := 0) hgr rfl
    have r1 := cell0_of (k := 1) hgr rfl
    have r2 := cell0_of (k := 2) hgr rfl
    have r3 := cell0_of (k := 3) hgr rfl
    have f0 := blk_free hgr 0
    have f1 := blk_free hgr 1
    have f2 := blk_free hgr 2
    have f3 := blk_free hgr 3
    have l1 : ¬ w.heap.size = w3.heap.size := by have := t_lt H3.out.2.2; omega
    have l2 : ¬ w3.heap.size = w.heap.size := by omega
    have H4 : Hid _ := And.intro hw4 (bel9 hb4 H3.out.2.1)
    clear hw4 hb4 hg4 hgr
    go_upto_region 9 with fail
    rw [← H4.out.1]
    go_wp2_with fail
    go_loopg [49] 1 (fun q iv wr => iv = .int .i64 0 ∧ wr = w4)
    case atStart => exact ⟨rfl, rfl⟩
    case round =>
      obtain ⟨rfl, hwr⟩ := hrel
      obtain rfl := hwr.symm
      clear hwr
      go_wp2_with fail
      refine bodyPost_ret (v := .tuple #[.agg #[.int .i64 0, .int .i64 0, .int .i64 0, .slice none 0 0], .slice (some ⟨ga, 0, none⟩) 0 0]) (by simp [results, Tryd.results8, go_sem, *]) rfl ?_
      exact ⟨_, rfl, (((H4.out.2.setCell (Nat.le_refl _) _).setCell (Nat.le_refl _) _).setCell (Nat.le_refl _) _).setCell (Nat.le_refl _) _⟩
end Go.Proofs.YtmfcfiiggmkbpaaDoor
