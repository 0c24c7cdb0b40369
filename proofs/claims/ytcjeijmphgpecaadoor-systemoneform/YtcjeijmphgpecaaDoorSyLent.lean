/- Contracts of the book's SameSystem, Lent and Stays. -/
import Derived.Test.YtcjeijmphgpecaaDoorSyNormal
namespace Go.Proofs.YtcjeijmphgpecaaDoor
open Go.RowKit Go.Maps
attribute [local go_sem ↓] Go.wp_at_zero Go.wp_at_succ
set_option maxRecDepth 100000 in
set_option maxHeartbeats 2000000 in
theorem sameSystem_b (n k s : Int) (va vb : Value) (es : List Sy.Ed) (w : World) (hn : es.length ≤ 1000000) (hA : BEdges.Has w va es) (hB : BEdges.Has w vb es) :
    Calls Tryd.prog 13 #[sysV n k s va, sysV n k s vb] w fun e w' => e = .returned (.bool true) ∧ Below w.heap.size w w' := by
  obtain ⟨w1, hw1⟩ : ∃ w1, w1 = (w.alloc (.cells #[.int .i64 n, .int .i64 k, .int .i64 s, va] 24)).alloc (.cells #[.int .i64 n, .int .i64 k, .int .i64 s, vb] 24) := ⟨_, rfl⟩
  have hb1 : Below w.heap.size w w1 := by rw [hw1]; exact ((Below.refl _ _).alloc (Nat.le_refl _) _).alloc (by simp) _
  have H1 : Hid _ := And.intro (BEdges.same_b va vb es w1 (by omega) (hA.below hb1) (hB.below hb1)) (And.intro hb1 hw1)
  obtain ⟨ao, cap, rfl, _⟩ := hA
  obtain ⟨bo, cbp, rfl, _⟩ := hB
  unfold sysV
  have nn : ¬ w.heap.size + 1 = w.heap.size := by omega
  clear hb1 hw1
  go_enter Tryd.func13, Tryd.ntmps13
  go_wp2_with fail
  rw [← H1.out.2.2]
  refine Calls.mono H1.out.1 ?_
  rintro e w2 ⟨rfl, hb2⟩
  have H2 : Hid _ := H1.out.2.1.trans (hb2.mono H1.out.2.1.size)
  clear hb2
  go_wp2_with fail
  go_ret
  exact ⟨rfl, H2.out⟩
/-- The marks behind what is lent. -/
def mk3 : List Sy.Ed := [(-7, 0, 0), (-7, 1, 0), (-7, 2, 0)]
/-- A list with room behind it, in which the marks stand. -/
def LentE (w : World) (B : Nat) (u : Value) (es : List Sy.Ed) : Prop := ∃ g cap, u = .slice (some ⟨g, 0, none⟩) es.length cap ∧ es.length + 3 ≤ cap ∧ BEdges.Own w B (.slice (some ⟨g, 0, none⟩) (es.length + 3) cap) (es ++ mk3)
theorem LentE.below {w w' : World} {B : Nat} {u : Value} {es : List Sy.Ed} (h : LentE w B u es) (hb : Below w.heap.size w w') : LentE w' B u es := by
  obtain ⟨g, cap, h1, h2, h3⟩ := h
  exact ⟨g, cap, h1, h2, trow_at h3 fun b hb' => hb.block b (h3.lt b hb').2⟩
theorem LentE.hasE {w : World} {B : Nat} {u : Value} {es : List Sy.Ed} (h : LentE w B u es) : HasE w u es := by
  obtain ⟨g, cap, rfl, h2, h3⟩ := h
  have h4 := HasE.of_own h3
  have h5 := hasE_take h4 es.length (by rw [List.length_append]; omega)
  rw [List.take_left' rfl] at h5
  exact h5
set_option maxRecDepth 100000 in
set_option maxHeartbeats 4000000 in
theorem lentS_any (n k s : Int) (v : Value) (es : List Sy.Ed) (w : World) (hn : es.length ≤ 1000000) (hv : BEdges.Has w v es) :
    Calls Tryd.prog 7 #[sysV n k s v] w fun e w' => ∃ u, e = .returned (sysV n k s u) ∧ LentE w' w.heap.size u es ∧ Below w.heap.size w w' := by
  obtain ⟨i0, hi0, hz0, hz1, hz2⟩ := info_parts BEdges.Tryd.infoE
  obtain ⟨w1, hw1⟩ : ∃ w1, w1 = (w.alloc (.cells #[.int .i64 n, .int .i64 k, .int .i64 s, v] 24)).alloc (.cells #[.int .i64 0, .int .i64 0, .int .i64 0, .slice none 0 0] 24) := ⟨_, rfl⟩
  have hb1 : Below w.heap.size w w1 := by rw [hw1]; exact ((Below.refl _ _).alloc (Nat.le_refl _) _).alloc (by simp) _
  have hg : w1.heap[w.heap.size + 1]? = some (.cells #[.int .i64 0, .int .i64 0, .int .i64 0, .slice none 0 0] 24 (0, 0)) := by rw [hw1]; exact two_alloc w _ _
  have hg0 : w1.heap[w.heap.size]? = some (.cells #[.int .i64 n, .int .i64 k, .int .i64 s, v] 24 (0, 0)) := by rw [hw1, Below.heap_alloc _ _ _ (by simp)]; exact heap_alloc_new w _
  obtain ⟨ao, cap, rfl, _⟩ := _root_.id hv
  have hC := BEdges.copy_of (hv.below hb1)
  obtain ⟨m, hm⟩ : ∃ m, m = es.length := ⟨_, rfl⟩
  rw [← hm] at hC hn hg0 hw1 ⊢
  have hcl : (BEdges.C es).length = m * 3 := by rw [BEdges.C_len, hm]
  have HC : Hid _ := And.intro hC (And.intro hb1 (And.intro hg (And.intro hg0 (And.intro hw1 hm))))
  have hL1 : m ≤ maxLen := by unfold maxLen; omega
  have hL8 : m * 24 ≤ 140737488355328 := by omega
  have hle1 : w.heap.size ≤ w1.heap.size := hb1.size
  unfold sysV
  clear hv hC hb1 hg hg0 hw1 hm
  go_enter Tryd.func7, Tryd.ntmps7
  go_upto_region 1 with fail
  rw [← HC.out.2.2.2.2.1]
  obtain ⟨x0, x1, x2, x3⟩ := four_cells HC.out.2.2.2.1
  go_wp2_with (at_builtin; refine wpList_copy_at _ rfl _ _ 22 rfl w.heap.size 47 i0 (.agg #[.int .i64 0, .int .i64 0, .int .i64 0]) 3 24 Tryd.underlying22 hi0 hz0 hz1 hz2 rfl (by decide) rfl ao m cap (BEdges.C es) rfl HC.out.1.1 hcl HC.out.1.2 (BEdges.C_one _) hL1 hL8 hle1 ?_; intro v2 w2 hown2 hgrow2 hat2; have H2 : Hid _ := And.intro hown2 (tgrown0 hgrow2); clear hown2 hgrow2 hat2)
  clear x0 x1 x2 x3
  go_loopg [3, 4] 3 (fun q lv iv wr => ∃ (i : Nat), q = 3 - i ∧ i ≤ 3 ∧ iv = .int .i64 i ∧ BEdges.Own wr w.heap.size lv (es ++ mk3.take i) ∧ Below w.heap.size w wr ∧ wr.heap[w.heap.size + 1]? = some (.cells #[.int .i64 0, .int .i64 0, .int .i64 0, .slice none 0 0] 24 (0, 0)) ∧ wr.heap[w.heap.size]? = some (.cells #[.int .i64 n, .int .i64 k, .int .i64 s, .slice ao m cap] 24 (0, 0)))
  case atStart => exact ⟨0, rfl, by omega, rfl, by rw [List.take_zero, List.append_nil]; unfold BEdges.Own; rw [← HC.out.2.2.2.2.2]; exact H2.out.1, HC.out.2.1.trans (H2.out.2.mono hle1), (H2.out.2.block _ (t_lt HC.out.2.2.1)).trans HC.out.2.2.1, (H2.out.2.block _ (t_lt HC.out.2.2.2.1)).trans HC.out.2.2.2.1⟩
  case round =>
    obtain ⟨i, rfl, hi, rfl, hO, hb, hg, hg0⟩ := hrel
    clear H2
    have hlen : (es ++ mk3.take i).length = m + i := by rw [List.length_append, List.length_take, ← HC.out.2.2.2.2.2]; show m + min i 3 = _; omega
    obtain ⟨al, cl, rfl⟩ := row_shape hO
    rw [hlen]
    obtain ⟨N, hN⟩ : ∃ N, N = m + i := ⟨_, rfl⟩
    have hO' : wr.ownsRow w.heap.size 47 3 (.slice al N cl) N (BEdges.C (es ++ mk3.take i)) := by have h1 := hO; unfold BEdges.Own at h1; rw [hlen, ← hN] at h1; exact h1
    rw [← hN]
    have HR : Hid _ := And.intro hO' (And.intro hb (And.intro hg (And.intro hg0 hN)))
    have hNl : N ≤ 1000003 := by omega
    clear hO hO' hb hg hg0 hlen hN
    by_cases hlt : i < 3
    · have q1 : (i : Int) < 3 := by omega
      have hml : N + 1 ≤ maxLen := by unfold maxLen; omega
      have hby : (N + 1) * 24 ≤ 140737488355328 := by omega
      have hle : w.heap.size ≤ (wr.alloc (.cells #[.int .i64 (-7), .int .i64 i, .int .i64 0] 47)).heap.size := by have := HR.out.2.1.size; simp; omega
      go_wp2_with (at_builtin; refine wpList_append_own_at _ rfl _ _ 22 rfl w.heap.size 47 i0 (.agg #[.int .i64 0, .int .i64 0, .int .i64 0]) 3 24 Tryd.underlying22 hi0 hz0 hz1 hz2 rfl (by decide) (.slice al N cl) N (BEdges.C (es ++ mk3.take i)) rfl (HR.out.1.alloc _) ⟨wr.heap.size, 0, none⟩ 1 1 [.int .i64 (-7), .int .i64 i, .int .i64 0] rfl rfl (World.news_of_block (cs := #[.int .i64 (-7), .int .i64 i, .int .i64 0]) (t := 47) (fr := (0, 0)) (heap_alloc_new wr _)) (by simp [Value.oneCell']) hml hby hle ?_; intro v3 w3 hown3 hgrow3 hnil3 hat3; have H3 : Hid _ := And.intro hown3 hgrow3; clear hown3 hgrow3 hnil3 hat3)
      have hk3 := grown_alloc H3.out.2
      have hn1 := own_bk HR.out.1 HR.out.2.2.1 (by decide)
      have hn2 := own_bk HR.out.1 HR.out.2.2.2.1 (by decide)
      have HK : Hid _ := And.intro hk3 (And.intro hn1 hn2)
      clear hk3 hn1 hn2
      go_roundg (3 - (i + 1))
      case measure => omega
      case rel =>
        have hz : mk3[i]? = some (-7, (i : Int), 0) := by
          have h9 : i = 0 ∨ i = 1 ∨ i = 2 := by omega
          rcases h9 with rfl | rfl | rfl <;> rfl
        exact ⟨i + 1, rfl, by omega, by go_num, by
          rw [take_succ_of hz, ← List.append_assoc]
          unfold BEdges.Own
          rw [BEdges.C_snoc, List.length_append]
          have h1 : (es ++ mk3.take i).length = N := by rw [List.length_append, List.length_take, ← HC.out.2.2.2.2.2, HR.out.2.2.2.2]; show m + min i 3 = _; omega
          rw [h1]
          exact H3.out.1, HR.out.2.1.trans (HK.out.1.below HR.out.2.1.size fun b hb => (HR.out.1.lt b hb).1), (HK.out.1.block _ (t_lt HR.out.2.2.1) fun e => HK.out.2.1 e).trans HR.out.2.2.1, (HK.out.1.block _ (t_lt HR.out.2.2.2.1) fun e => HK.out.2.2 e).trans HR.out.2.2.2.1⟩
    · obtain rfl : i = 3 := by omega
      have q1 : ¬ ((3 : Nat) : Int) < 3 := by omega
      obtain ⟨g, c, hf, hgl, _⟩ := World.ownsRow.form HR.out.1 (by have := HR.out.2.2.2.2; omega)
      injection hf with e1 e2 e3
      subst e1; subst e3
      obtain ⟨_, _, hcap⟩ : N ≤ cl ∧ True ∧ N ≤ cl := by
        rcases HR.out.1.2 with ⟨h9, _⟩ | ⟨g2, c2, cur, h9, _, _, hc2, _⟩
        · cases h9
        · injection h9 with f1 f2 f3; subst f3; exact ⟨hc2, trivial, hc2⟩
      have p0 : (0 : Int) ≤ (m : Int) := by omega
      have p1 : (m : Int) ≤ (cl : Int) := by have := HR.out.2.2.2.2; omega
      obtain ⟨y0, y1, y2, y3⟩ := four_cells HR.out.2.2.1
      obtain ⟨x0, x1, x2, x3⟩ := four_cells HR.out.2.2.2.1
      have z0 := blk_free HR.out.2.2.1 0
      have z1 := blk_free HR.out.2.2.1 1
      have z2 := blk_free HR.out.2.2.1 2
      have z3 := blk_free HR.out.2.2.1 3
      have z4 := blk_free HR.out.2.2.2.1 3
      have nn : ¬ w.heap.size + 1 = w.heap.size := by omega
      have nn2 : ¬ w.heap.size = w.heap.size + 1 := by omega
      have HE : Hid _ := hcap
      clear e2 hcap
      go_wp2_with fail
      have hgm : (wr.setCell ⟨w.heap.size, 3, none⟩ (.slice (some ⟨g, 0, none⟩) m cl)).heap[w.heap.size + 1]? = some (.cells #[.int .i64 0, .int .i64 0, .int .i64 0, .slice none 0 0] 24 (0, 0)) := (set_other _ _ _ _ _ nn).trans HR.out.2.2.1
      have hbm : Below w.heap.size w (wr.setCell ⟨w.heap.size, 3, none⟩ (.slice (some ⟨g, 0, none⟩) m cl)) := HR.out.2.1.setCell (Nat.le_refl _) _
      have hgf := four_set (a0 := .int .i64 n) (a1 := .int .i64 k) (a2 := .int .i64 s) (a3 := .slice (some ⟨g, 0, none⟩) m cl) hgm
      have hbf := four_below hbm (b := w.heap.size + 1) (by omega) (.int .i64 n) (.int .i64 k) (.int .i64 s) (.slice (some ⟨g, 0, none⟩) m cl)
      have hOf : (((((wr.setCell ⟨w.heap.size, 3, none⟩ (.slice (some ⟨g, 0, none⟩) m cl)).setCell ⟨w.heap.size + 1, 0, none⟩ (.int .i64 n)).setCell ⟨w.heap.size + 1, 1, none⟩ (.int .i64 k)).setCell ⟨w.heap.size + 1, 2, none⟩ (.int .i64 s)).setCell ⟨w.heap.size + 1, 3, none⟩ (.slice (some ⟨g, 0, none⟩) m cl)).ownsRow w.heap.size 47 3 (.slice (some ⟨g, 0, none⟩) N cl) N (BEdges.C (es ++ mk3.take 3)) := trow_at HR.out.1 fun b hb => by
        have h1 := own_bk HR.out.1 HR.out.2.2.1 (by decide)
        have h2 := own_bk HR.out.1 HR.out.2.2.2.1 (by decide)
        have e1 : b ≠ w.heap.size + 1 := fun e => h1 (by rw [← e]; exact hb)
        have e2 : b ≠ w.heap.size := fun e => h2 (by rw [← e]; exact hb)
        rw [set_other _ _ _ _ _ e1, set_other _ _ _ _ _ e1, set_other _ _ _ _ _ e1, set_other _ _ _ _ _ e1, set_other _ _ _ _ _ e2]
      generalize (((((wr.setCell ⟨w.heap.size, 3, none⟩ (.slice (some ⟨g, 0, none⟩) m cl)).setCell ⟨w.heap.size + 1, 0, none⟩ (.int .i64 n)).setCell ⟨w.heap.size + 1, 1, none⟩ (.int .i64 k)).setCell ⟨w.heap.size + 1, 2, none⟩ (.int .i64 s)).setCell ⟨w.heap.size + 1, 3, none⟩ (.slice (some ⟨g, 0, none⟩) m cl)) = wf at hgf hbf hOf ⊢
      clear y0 y1 y2 y3 z0 z1 z2 z3 z4 x0 x1 x2 x3
      obtain ⟨c0, c1, c2, c3⟩ := four_cells hgf
      refine bodyPost_ret (v := .agg #[.int .i64 n, .int .i64 k, .int .i64 s, .slice (some ⟨g, 0, none⟩) m cl]) (by simp [results, Tryd.results7, go_sem, c0, c1, c2, c3]) rfl ⟨_, rfl, ⟨g, cl, by rw [HC.out.2.2.2.2.2], by have := HE.out; have := HR.out.2.2.2.2; have := HC.out.2.2.2.2.2; omega, ?_⟩, hbf⟩
      have h1 : N = es.length + 3 := by rw [HR.out.2.2.2.2, HC.out.2.2.2.2.2]
      unfold BEdges.Own
      rw [List.length_append]
      show wf.ownsRow w.heap.size 47 3 (.slice (some ⟨g, 0, none⟩) (es.length + 3) cl) (es.length + 3) (BEdges.C (es ++ mk3))
      rw [← h1]
      exact hOf
set_option maxRecDepth 100000 in
set_option maxHeartbeats 4000000 in
theorem staysS_any (n k s n' k' s' : Int) (B : Nat) (va vb : Value) (es : List Sy.Ed) (w : World) (hn : es.length ≤ 1000000) (hA : LentE w B va es) (hB : BEdges.Has w vb es) :
    Calls Tryd.prog 12 #[sysV n k s va, sysV n' k' s' vb] w fun e w' => e = .returned (.bool true) ∧ Below w.heap.size w w' := by
  obtain ⟨w1, hw1⟩ : ∃ w1, w1 = (w.alloc (.cells #[.int .i64 n, .int .i64 k, .int .i64 s, va] 24)).alloc (.cells #[.int .i64 n', .int .i64 k', .int .i64 s', vb] 24) := ⟨_, rfl⟩
  have hb1 : Below w.heap.size w w1 := by rw [hw1]; exact ((Below.refl _ _).alloc (Nat.le_refl _) _).alloc (by simp) _
  have hg0 : w1.heap[w.heap.size]? = some (.cells #[.int .i64 n, .int .i64 k, .int .i64 s, va] 24 (0, 0)) := by rw [hw1, Below.heap_alloc _ _ _ (by simp)]; exact heap_alloc_new w _
  have hS := BEdges.same_b va vb es w1 (by omega) (hA.hasE.below hb1 |> fun ⟨_, _, _, _, h⟩ => h) (hB.below hb1)
  obtain ⟨bo, cbp, rfl, _⟩ := hB
  have hA1 := hA.below hb1
  obtain ⟨g, cap, rfl, hcap, _⟩ := hA
  obtain ⟨m, hm⟩ : ∃ m, m = es.length := ⟨_, rfl⟩
  rw [← hm] at hS hcap hg0 hw1 hn ⊢
  have H1 : Hid _ := And.intro hS (And.intro hb1 (And.intro hg0 (And.intro hw1 (And.intro hm hA1))))
  unfold sysV
  have nn : ¬ w.heap.size + 1 = w.heap.size := by omega
  have e3 : IntKind.i64.wrap ((m : Int) + 3) = (m : Int) + 3 := by rw [IntKind.wrap_i64]; omega
  have p0 : (0 : Int) ≤ (m : Int) + 3 := by omega
  have p1 : (m : Int) + 3 ≤ (cap : Int) := by omega
  clear hS hb1 hg0 hw1 hm hA1
  go_enter Tryd.func12, Tryd.ntmps12
  go_wp2_with fail
  rw [← H1.out.2.2.2.1]
  refine Calls.mono H1.out.1 ?_
  rintro e w2 ⟨rfl, hb2⟩
  have hg2 := (hb2.block _ (t_lt H1.out.2.2.1)).trans H1.out.2.2.1
  obtain ⟨x0, x1, x2, x3⟩ := four_cells hg2
  have hA2 := H1.out.2.2.2.2.2.below hb2
  obtain ⟨g', cap', hu, _, hO⟩ := hA2
  injection hu with f1 f2 f3
  injection f1 with f1
  injection f1 with f1
  subst f1; subst f3
  have H2 : Hid _ := And.intro (H1.out.2.1.trans (hb2.mono H1.out.2.1.size)) (And.intro hO hg2)
  clear hb2 hg2 hO f2
  go_wp2_with fail
  go_loopg [6] 3 (fun q iv wr => ∃ i : Nat, q = 3 - i ∧ i ≤ 3 ∧ iv = .int .i64 i ∧ Below w2.heap.size w2 wr)
  case atStart => exact ⟨0, rfl, by omega, rfl, Below.refl _ _⟩
  case round =>
    obtain ⟨i, rfl, hi, rfl, hb⟩ := hrel
    by_cases hlt : i < 3
    · have q1 : (i : Int) < 3 := by omega
      have hz : (es ++ mk3)[m + i]? = some (-7, (i : Int), 0) := by
        rw [H1.out.2.2.2.2.1, List.getElem?_append_right (by omega), Nat.add_sub_cancel_left]
        have h9 : i = 0 ∨ i = 1 ∨ i = 2 := by omega
        rcases h9 with rfl | rfl | rfl <;> rfl
      obtain ⟨g2, hg3, c0, c1, c2⟩ := own_edge (trow_at (w' := wr) H2.out.2.1 fun b hb' => hb.block b (H2.out.2.1.lt b hb').2) hz
      cases hg3
      have y3 := cell_up x3 hb
      obtain ⟨M, hM⟩ : ∃ M, M = m + i := ⟨_, rfl⟩
      have e4 : IntKind.i64.wrap ((m : Int) + (i : Int)) = (M : Int) := by rw [IntKind.wrap_i64]; omega
      have r0 : (0 : Int) ≤ (M : Int) := by omega
      have r1 : (M : Int) < (m : Int) + 3 := by omega
      rw [← hM] at c0 c1 c2
      have HB : Hid _ := hb
      clear hb hz hM
      go_wp2_with fail
      go_roundg (3 - (i + 1))
      case measure => omega
      case rel => exact ⟨i + 1, rfl, by omega, by go_num, by first | exact HB.out | exact HB.out.alloc HB.out.size _⟩
    · obtain rfl : i = 3 := by omega
      have q1 : ¬ ((3 : Nat) : Int) < 3 := by omega
      have HB : Hid _ := hb
      clear hb
      go_wp2_with fail
      go_ret
      exact ⟨rfl, H2.out.1.trans (HB.out.mono H2.out.1.size)⟩
end Go.Proofs.YtcjeijmphgpecaaDoor
