/- GraphPlays as a call. -/
import Derived.Test.YtgnfommndoodmaaGreatDoorPart11
import Derived.Deep.QuietTactic
import Derived.BigQuiet
namespace Go.Proofs.YtgnfommndoodmaaGreatDoor
open Go.RowKit Go.Maps
attribute [local go_sem ↓] Go.wp_at_zero Go.wp_at_succ
set_option maxRecDepth 100000 in
set_option maxHeartbeats 32000000 in
set_option linter.unusedSimpArgs false in
theorem lawPlays_in (hS : SortOk 1000000) (n : Nat) (k s i b : Int) (v : Value) (es : List Sy.Ed) (e : Nat → Addr) (w : World) (hA : PAlive w) (hE : Er 19 w e) (hv : HasE w v es) (hlen : es.length ≤ 2000) (hq : Sy.right n k s es = true) :
    Calls Tryz.prog 3 #[sysV n k s v, .int .i64 i, .int .i64 b] w fun r w' => r = .returned (.bool true) ∧ Below w.heap.size w w' := by
  have hvs := hv
  obtain ⟨ao, cap, rfl, hcap, hH⟩ := hvs
  obtain ⟨L, hL⟩ : ∃ L, L = es.length := ⟨_, rfl⟩
  rw [← hL] at hcap hlen hv hH ⊢
  obtain ⟨w1, hw1⟩ : ∃ w1, w1 = w.alloc (.cells #[.int .i64 n, .int .i64 k, .int .i64 s, .slice ao L cap] 24) := ⟨_, rfl⟩
  have hb1 : Below w.heap.size w w1 := by rw [hw1]; exact (Below.refl _ _).alloc (Nat.le_refl _) _
  have hg1 : w1.heap[w.heap.size]? = some (.cells #[.int .i64 n, .int .i64 k, .int .i64 s, .slice ao L cap] 24 (0, 0)) := by rw [hw1]; exact heap_alloc_new w _
  have hH0 : BEdges.Has w (.slice ao L cap) es := by obtain ⟨_, _, _, _, h⟩ := hv; exact h
  have hLe := lentS_any n k s (.slice ao L cap) es w1 (by omega) (hH0.below hb1)
  have HV : Hid (BEdges.Has w (.slice ao L cap) es ∧ L = es.length ∧ PAlive w ∧ Er 19 w e ∧ Sy.right n k s es = true) := ⟨hH0, hL, hA, hE, hq⟩
  have HVE : Hid (HasE w (.slice ao L cap) es) := hv
  unfold sysV at hLe ⊢
  have H1 : Hid _ := And.intro hw1 (And.intro hb1 (And.intro hg1 hLe))
  obtain ⟨x0, x1, x2, x3⟩ := four_cells hg1
  have q1 : ¬ (2000 : Int) < (L : Int) := by omega
  clear hA hE hv hH hcap hL hw1 hb1 hg1 hq hLe hH0
  go_enter Tryz.func3, Tryz.ntmps3
  go_upto_region 1 with fail
  rw [← H1.out.1]
  go_wp2_with fail
  refine Calls.mono H1.out.2.2.2 ?_
  rintro r w2 ⟨u, rfl, hLn, hb2⟩
  have hLn0 := hLn
  obtain ⟨gl, cl, hu, _, hOl⟩ := hLn0
  have hgl := hOl.lt gl rfl
  rw [← HV.out.2.1] at hu
  subst hu
  obtain ⟨w3, hw3⟩ : ∃ w3, w3 = w2.alloc (.cells #[.int .i64 n, .int .i64 k, .int .i64 s, .slice (some ⟨gl, 0, none⟩) L cl] 24) := ⟨_, rfl⟩
  have hb3 : Below w2.heap.size w2 w3 := by rw [hw3]; exact (Below.refl _ _).alloc (Nat.le_refl _) _
  have hg3 : w3.heap[w2.heap.size]? = some (.cells #[.int .i64 n, .int .i64 k, .int .i64 s, .slice (some ⟨gl, 0, none⟩) L cl] 24 (0, 0)) := by rw [hw3]; exact heap_alloc_new w2 _
  have hb03 := bel5 hb3 (bel5 hb2 H1.out.2.1)
  have hL3 := hLn.below hb3
  have hN := new_ok hS n k s (.slice (some ⟨gl, 0, none⟩) L cl) es (e 14) w3 ((HV.out.2.2.2.1.below hb03).s14 (by decide)) (by obtain ⟨_, _, _, _, h⟩ := hL3.hasE; exact h) (by have := HV.out.2.1; omega) (by have := HV.out.2.1; omega) HV.out.2.2.2.2
  unfold sysV at hN
  have H3 : Hid _ := And.intro hw3 (And.intro hb03 (And.intro hg3 (And.intro hL3 (And.intro (res_up5 (bel5 hb3 hb2) H1.out.2.2.1) hN))))
  clear x0 x1 x2 x3
  obtain ⟨x0, x1, x2, x3⟩ := four_cells hg3
  have HB3 : Hid (Below w1.heap.size w1 w3 ∧ w1.heap.size ≤ gl ∧ gl < w2.heap.size) := ⟨bel5 hb3 hb2, hgl.1, hgl.2⟩
  clear hw3 hb3 hg3 hb03 hL3 hN hLn hb2 hOl hgl
  go_upto_region 4 with fail
  rw [← H3.out.1]
  go_wp2_with fail
  refine Calls.mono H3.out.2.2.2.2.2 ?_
  rintro r w4 ⟨g, bs, bb, cs, cb, m, hnm, rfl, hG4, hb4⟩
  obtain rfl : m = n := by omega
  clear hnm
  have hb04 := bel5 hb4 H3.out.2.1
  have hg4 := res_up5 hb4 H3.out.2.2.2.2.1
  have hK := refCheck_any m k s (.slice ao L cap) es w4 (HV.out.1.below hb04)
  rw [HV.out.2.2.2.2] at hK
  unfold sysV chkV at hK
  simp only [if_true] at hK
  have H4 : Hid _ := And.intro hb04 (And.intro hg4 (And.intro hG4 (And.intro (res_up5 hb4 H3.out.2.2.1) (And.intro (H3.out.2.2.2.1.below hb4) hK))))
  clear x0 x1 x2 x3
  obtain ⟨x0, x1, x2, x3⟩ := four_cells hg4
  have HB4 : Hid _ := bel5 hb4 HB3.out.1
  clear hb04 hg4 hK hG4 hb4
  go_wp2_with fail
  refine Calls.mono H4.out.2.2.2.2.2 ?_
  rintro r w5 ⟨rfl, hb5⟩
  obtain ⟨w6, hw6⟩ : ∃ w6, w6 = w5.alloc (.cells #[.int .i64 0, .int .i64 0, .int .i64 0, .string ⟨#[]⟩] 33) := ⟨_, rfl⟩
  have hb6 : Below w5.heap.size w5 w6 := by rw [hw6]; exact (Below.refl _ _).alloc (Nat.le_refl _) _
  have hg6 : w6.heap[w5.heap.size]? = some (.cells #[.int .i64 0, .int .i64 0, .int .i64 0, .string ⟨#[]⟩] 33 (0, 0)) := by rw [hw6]; exact heap_alloc_new w5 _
  have hb46 := bel5 hb6 hb5
  have hb06 := bel5 hb46 H4.out.1
  have H6 : Hid _ := And.intro hw6 (And.intro hb06 (And.intro (res_up5 hb46 H4.out.2.1) (And.intro (res_up5 hb46 H4.out.2.2.2.1) (And.intro (H4.out.2.2.2.2.1.below hb46) (And.intro hg6 (And.intro (H4.out.2.2.1.below hb46) (told_none 0 0 ⟨#[]⟩ w6)))))))
  clear x0 x1 x2 x3
  obtain ⟨x0, x1, x2, x3⟩ := four_cells hg6
  have HB6 : Hid _ := bel5 hb46 HB4.out
  clear hw6 hb6 hg6 hb46 hb06 hb5
  go_upto_region 6 with fail
  rw [← H6.out.1]
  go_wp2_with fail
  refine Calls.mono H6.out.2.2.2.2.2.2.2 ?_
  rintro r w7 ⟨rfl, hb7⟩
  have hb07 := bel5 hb7 H6.out.2.1
  have hS7 := staysS_any m k s m k s _ (.slice (some ⟨gl, 0, none⟩) L cl) (.slice ao L cap) es w7 (by have := HV.out.2.1; omega) (H6.out.2.2.2.2.1.below hb7) (HV.out.1.below hb07)
  unfold sysV at hS7
  clear x0 x1 x2 x3
  obtain ⟨x0, x1, x2, x3⟩ := four_cells (res_up5 hb7 H6.out.2.2.1)
  obtain ⟨y0, y1, y2, y3⟩ := four_cells (res_up5 hb7 H6.out.2.2.2.1)
  obtain ⟨z0, z1, z2, z3⟩ := four_cells (res_up5 hb7 H6.out.2.2.2.2.2.1)
  have H7 : Hid _ := And.intro hb07 (And.intro hS7 (And.intro (res_up5 hb7 H6.out.2.2.1) (And.intro (res_up5 hb7 H6.out.2.2.2.1) (And.intro (H6.out.2.2.2.2.1.below hb7) (H6.out.2.2.2.2.2.2.1.below hb7)))))
  have hN := Tryz.eqG g
  have HB7 : Hid _ := bel5 hb7 HB6.out
  clear hb07 hS7 hb7
  go_wp2_with fail
  refine Calls.mono H7.out.2.1 ?_
  rintro r w8 ⟨rfl, hb8⟩
  have hb18 := bel5 hb8 HB7.out
  have hg8 := res_up5 hb8 H7.out.2.2.2.1
  have hP0 := PlW.begin HV.out.2.1 (H7.out.2.2.2.2.1.below hb8) hb18
  have H8 : Hid _ := And.intro hP0 (And.intro hg8 (And.intro (H7.out.2.2.2.2.2.below hb8) hb18))
  have hlt7 : w2.heap.size < w3.heap.size := by rw [H3.out.1]; simp
  clear x0 x1 x2 x3 y0 y1 y2 y3 z0 z1 z2 z3 hb18 hg8 hP0 hb8
  go_wp2_with fail
  go_loopg [11] L (fun q tv wr => ∃ j : Nat, q = L - j ∧ j ≤ L ∧ tv = .int .i64 j ∧ PlW w1 w8 wr gl L)
  case atStart => exact ⟨0, rfl, Nat.zero_le _, rfl, H8.out.1⟩
  case round =>
    obtain ⟨j, rfl, hj, rfl, hP⟩ := hrel
    obtain ⟨wq, rfl⟩ : ∃ wq, wq = wr := ⟨_, rfl⟩
    by_cases hjl : j < L
    · obtain ⟨vs, hA, hvl⟩ := hP.arr
      obtain ⟨x, hx⟩ : ∃ x, vs[j * 3 + 2]? = some x := ⟨vs[j * 3 + 2]'(by omega), List.getElem?_eq_getElem _⟩
      have cg := hA.cell hx
      have cf := hA.free (j * 3 + 2)
      have hg7 : wq.heap[w2.heap.size]? = _ := (hP.kept.block _ (t_lt H8.out.2.1) (by have := HB3.out.2; omega)).trans H8.out.2.1
      obtain ⟨y0, y1, y2, y3⟩ := four_cells hg7
      have k0 : (0 : Int) ≤ (j : Int) := by omega
      have k1 : (j : Int) < (L : Int) := by omega
      have HX : Hid _ := hP.set (j * 3 + 2) (.int .i64 (-5))
      clear hP hA hvl hx hg7
      go_wp2_with fail
      go_roundg (L - (j + 1))
      case measure => omega
      case rel => exact ⟨j + 1, rfl, by omega, by go_num, HX.out⟩
    · have k1 : ¬ (j : Int) < (L : Int) := by omega
      have hg7 : wq.heap[w2.heap.size]? = _ := (hP.kept.block _ (t_lt H8.out.2.1) (by have := HB3.out.2; omega)).trans H8.out.2.1
      obtain ⟨y0, y1, y2, y3⟩ := four_cells hg7
      obtain ⟨vs, hA, _⟩ := hP.arr
      have hbq := bel5 hA.bl H1.out.2.1
      have hGq := H8.out.2.2.1.kept hP.kept (fun b hb => by have h1 : b = gl := hb; have := HB3.out.2.2; omega)
      have hg3q := res_up5 hA.bl H1.out.2.2.1
      have hNo := refNormal_any m k s (.slice ao L cap) es wq (HVE.out.below hbq) (by have := HV.out.2.1; omega)
      unfold sysV at hNo
      obtain ⟨x0, x1, x2, x3⟩ := four_cells hg3q
      have H9 : Hid _ := And.intro hbq (And.intro hGq (And.intro hg3q hNo))
      clear hP hA hg7 hbq hGq hg3q hNo
      go_wp2_with fail
      refine Calls.mono H9.out.2.2.2 ?_
      rintro r wa ⟨ua, rfl, hOa, hba⟩
      obtain ⟨aa, ca, hua⟩ := row_shape hOa
      obtain ⟨P, hP⟩ : ∃ P, P = (Sy.nf es).length := ⟨_, rfl⟩
      rw [← hP] at hua
      subst hua
      obtain ⟨wb, hwb⟩ : ∃ wb, wb = wa.alloc (.cells #[.int .i64 m, .int .i64 k, .int .i64 s, .slice aa P ca] 24) := ⟨_, rfl⟩
      have hbb : Below wa.heap.size wa wb := by rw [hwb]; exact (Below.refl _ _).alloc (Nat.le_refl _) _
      have hgb : wb.heap[wa.heap.size]? = some (.cells #[.int .i64 m, .int .i64 k, .int .i64 s, .slice aa P ca] 24 (0, 0)) := by rw [hwb]; exact heap_alloc_new wa _
      have hbqb := bel5 hbb hba
      have hb0b := bel5 hbqb H9.out.1
      have hg3b := res_up5 hbqb H9.out.2.2.1
      have HA : Hid _ := And.intro hwb (And.intro hb0b (And.intro (H9.out.2.1.below hbqb) (And.intro hg3b (And.intro hgb (And.intro hP (trow_at (w' := wb) hOa fun b e => hbb.block b (hOa.lt b e).2))))))
      have hrp := right_parts HV.out.2.2.2.2
      have hOt := fun W (h : Below wb.heap.size wb W) => refOut_any m k s (.slice ao L cap) es W (by omega) (HVE.out.below (bel5 h hb0b)) (by have := HV.out.2.1; omega) (fun z hz => by have := hrp.2.2.2.2.2 z hz; omega)
      have hBk := fun W (h : Below wb.heap.size wb W) => refBack_any m k s (.slice ao L cap) es W (HVE.out.below (bel5 h hb0b)) (by have := HV.out.2.1; omega)
      have hOt2 := fun u W (h : HasE W u (es.map Sy.turn)) => refOut_any m k s u (es.map Sy.turn) W (by omega) h (by have := HV.out.2.1; rw [List.length_map]; omega) (fun z hz => by obtain ⟨y, hy, rfl⟩ := List.mem_map.1 hz; have := hrp.2.2.2.2.2 y hy; exact ⟨this.2.2.1, this.2.2.2.1⟩)
      unfold sysV at hOt hBk hOt2
      have HO : Hid _ := And.intro hOt (And.intro hBk hOt2)
      clear x0 x1 x2 x3 y0 y1 y2 y3
      obtain ⟨x0, x1, x2, x3⟩ := four_cells hg3b
      have hmm : m ≤ 1000 := by omega
      clear hOa hba hP hwb hbb hgb hbqb hb0b hg3b hrp hOt hBk hOt2
      go_upto_region 15 with fail
      rw [← HA.out.1]
      refine wp_region_held_drew (S := (fun w' => (w'.cell? ⟨w.heap.size, 0, none⟩ = some (.int .i64 m) ∧ w'.cell? ⟨w.heap.size, 1, none⟩ = some (.int .i64 k) ∧ w'.cell? ⟨w.heap.size, 2, none⟩ = some (.int .i64 s) ∧ w'.cell? ⟨w.heap.size, 3, none⟩ = some (.slice ao L cap)) ∧ Hid (Below wb.heap.size wb w'))) (by kernel_rfl) ?_ (fun hHeld => ?_)
      · exact ⟨⟨x0, x1, x2, x3⟩, ((Below.refl _ _).drew : Below wb.heap.size wb wb.drew)⟩
      refine wpAnyH_take (i := 0) (oi := _) (v := ?_) rfl (by kernel_rfl) (by kernel_rfl) (by kernel_rfl) (fun _ _ _ h => h) (Or.inl ⟨by rfl, ?_⟩) (by assumption) ?_
      rotate_left
      · (intro w hSw; (try dsimp only at hSw); go_simp; (try with_reducible rfl))
      (try simp only [List.getElem_toArray, List.getElem_cons_succ, List.getElem_cons_zero, Act.put, List.setIfInBounds_toArray, List.set_cons_zero, List.set_cons_succ])
      refine wpAnyH_take (i := 2) (oi := _) (v := ?_) rfl (by kernel_rfl) (by kernel_rfl) (by kernel_rfl) (fun _ _ _ h => h) (Or.inl ⟨by rfl, ?_⟩) (by assumption) ?_
      rotate_left
      · (intro w hSw; (try dsimp only at hSw); go_simp; (try with_reducible rfl))
      (try simp only [List.getElem_toArray, List.getElem_cons_succ, List.getElem_cons_zero, Act.put, List.setIfInBounds_toArray, List.set_cons_zero, List.set_cons_succ])
      refine wpAnyH_ready (rs := [1]) (by kernel_rfl) (by simp) ?_
      refine AllReadyH.cons (o := _) rfl (fun K hK => ?_) ?_
      · (go_simp; go_at_call 12; refine Calls.mono (HO.out.1 _ (rg_b hHeld)) ?_; rintro r wc ⟨o1, us1, rfl, hA1, hU1⟩; have HU1 : Hid _ := And.intro hA1 hU1; have hbc := hA1.bl; clear hA1 hU1)
        (try go_wp2_with fail)
        refine hK.out _ _ ?_ (fun hHeld => ?_)
        · exact rg_up4 hbc hHeld
        clear hK K
        (try simp only [List.getElem_toArray, List.getElem_cons_succ, List.getElem_cons_zero, Act.put, List.setIfInBounds_toArray, List.set_cons_zero, List.set_cons_succ])
        clear hbc
        refine wpAnyH_ready (rs := [3]) (by kernel_rfl) (by simp) ?_
        refine AllReadyH.cons (o := _) rfl (fun K hK => ?_) ?_
        · (go_simp; go_at_call 13; refine Calls.mono (HO.out.2.1 _ (rg_b hHeld)) ?_; rintro r wd ⟨uB, rfl, hOB, hbd⟩; obtain ⟨aB, cB, hsB⟩ := row_shape hOB; have hHB := HasE.of_own hOB; obtain ⟨LB, hLB⟩ : ∃ LB, LB = (es.map Sy.turn).length := ⟨_, rfl⟩; rw [← hLB] at hsB; subst hsB; have HB5 : Hid _ := And.intro hbd hHB; clear hOB hHB hLB)
          (try go_wp2_with fail)
          refine hK.out _ _ ?_ (fun hHeld => ?_)
          · exact rg_up4 hbd hHeld
          clear hK K
          (try simp only [List.getElem_toArray, List.getElem_cons_succ, List.getElem_cons_zero, Act.put, List.setIfInBounds_toArray, List.set_cons_zero, List.set_cons_succ])
          clear hbd
          refine wpAnyH_ready (rs := [4]) (by kernel_rfl) (by simp) ?_
          refine AllReadyH.cons (o := _) rfl (fun K hK => ?_) ?_
          · (go_simp; go_at_call 12; refine Calls.mono (HO.out.2.2 _ _ HB5.out.2) ?_; rintro r we ⟨o2, us2, rfl, hA2, hU2⟩; have hbe := hA2.bl; have HU2 : Hid _ := And.intro hA2 hU2; clear hA2 hU2)
            (try go_wp2_with fail)
            refine hK.out _ _ ?_ (fun hHeld => ?_)
            · exact rg_up4 hbe hHeld
            clear hK K
            (try simp only [List.getElem_toArray, List.getElem_cons_succ, List.getElem_cons_zero, Act.put, List.setIfInBounds_toArray, List.set_cons_zero, List.set_cons_succ])
            refine wpAnyH_take (i := 5) (oi := _) (v := ?_) rfl (by kernel_rfl) (by kernel_rfl) (by kernel_rfl) (fun _ _ _ h => h) (Or.inl ⟨by rfl, ?_⟩) (by assumption) ?_
            rotate_left
            · (intro w hSw; (try dsimp only at hSw); go_simp; (try with_reducible rfl))
            (try simp only [List.getElem_toArray, List.getElem_cons_succ, List.getElem_cons_zero, Act.put, List.setIfInBounds_toArray, List.set_cons_zero, List.set_cons_succ])
            refine wpAnyH_take (i := 6) (oi := _) (v := ?_) rfl (by kernel_rfl) (by kernel_rfl) (by kernel_rfl) (fun _ _ _ h => h) (Or.inl ⟨by rfl, ?_⟩) (by assumption) ?_
            rotate_left
            · (intro w hSw; (try dsimp only at hSw); go_simp; (try with_reducible rfl))
            (try simp only [List.getElem_toArray, List.getElem_cons_succ, List.getElem_cons_zero, Act.put, List.setIfInBounds_toArray, List.set_cons_zero, List.set_cons_succ])
            refine wpAnyH_done (by kernel_rfl) ?_ _
            (try go_simp)
            have hbbe := rg_b hHeld
            have hT : PlT w we w3.heap.size g bs bb cs cb m k s es ao L cap wa.heap.size aa P ca o1 o2 us1 us2 := by
              refine ⟨bel5 hbbe HA.out.2.1, HA.out.2.2.1.below hbbe, res_up5 hbbe HA.out.2.2.2.1, res_up5 hbbe HA.out.2.2.2.2.1, ?_, ?_, RowsAt.of HU2.out.1 HU2.out.2⟩
              · have h5 := HA.out.2.2.2.2.2.2
                exact (BEdges.Own.has h5).below hbbe
              · exact (RowsAt.of HU1.out.1 HU1.out.2).below (HU2.out.1.bl |> bel5 <| HB5.out.1)
            have HT : Hid (PlT w we w3.heap.size g bs bb cs cb m k s es ao L cap wa.heap.size aa P ca o1 o2 us1 us2) := hT
            have HZ0 : Hid (HasE w (.slice ao L cap) es ∧ L = es.length ∧ PAlive w ∧ Sy.right m k s es = true) := ⟨HVE.out, HV.out.2.1, HV.out.2.2.1, HV.out.2.2.2.2⟩
            clear hbbe hT HU1 HU2 HB5 HO HA H9 HB7 HB6 HB4 HB3 H8 H7 H6 H4 H3 H1 HVE HV x0 x1 x2 x3 hHeld
            go_wp2_with fail
            go_loopg [15, 16] m (fun q dv iv wr => ∃ j : Nat, q = m - j ∧ j ≤ m ∧ dv = .int .i64 (Sy.degTo (Sy.nf es) j : Nat) ∧ iv = .int .i64 j ∧ Below we.heap.size we wr)
            case atStart => exact ⟨0, rfl, Nat.zero_le _, rfl, rfl, Below.refl _ _⟩
            case round =>
              obtain ⟨j2, rfl, hj2, rfl, rfl, hbr⟩ := hrel
              obtain ⟨wr2, rfl⟩ : ∃ wr2, wr2 = wr := ⟨_, rfl⟩
              have hT2 := HT.out.below hbr
              obtain ⟨x0, x1, x2, x3⟩ := four_cells hT2.sb
              by_cases hlt2 : j2 < m
              · obtain ⟨r1, c1, hu1, hh1⟩ := hT2.ro.row j2 hlt2
                obtain ⟨r2, c2, hu2, hh2⟩ := hT2.ri.row j2 hlt2
                have y1 := hT2.ro.cell _ _ hu1
                have y2 := hT2.ri.cell _ _ hu2
                have hds := deg_succ (Sy.nf es) j2
                have hdl := Sy.degTo_le (Sy.nf es) j2
                have hsl := Sy.steps_len (Sy.nf es) (j2 : Int)
                have hsz := hT2.gr.sizes
                obtain ⟨N1, hN1⟩ : ∃ N1, N1 = (Sy.steps (Sy.nf es) (j2 : Int)).length := ⟨_, rfl⟩
                obtain ⟨N2, hN2⟩ : ∃ N2, N2 = (Sy.steps (Sy.nf (es.map Sy.turn)) (j2 : Int)).length := ⟨_, rfl⟩
                obtain ⟨D, hD⟩ : ∃ D, D = Sy.degTo (Sy.nf es) j2 := ⟨_, rfl⟩
                rw [← hN1] at hh1 y1 hds hsl
                rw [← hN2] at hh2 y2
                rw [← hD] at hds hdl ⊢
                have hDm : D ≤ 10000 := by omega
                have hNm : N1 ≤ 10000 := by omega
                have p0 : (0 : Int) ≤ (j2 : Int) := by omega
                have p1 : (j2 : Int) < (m : Int) := by omega
                have HX : Hid ((PlT w wr2 w3.heap.size g bs bb cs cb m k s es ao L cap wa.heap.size aa P ca o1 o2 us1 us2 ∧ BSteps.Has wr2 (.slice r1 N1 c1) (Sy.steps (Sy.nf es) (j2 : Int)) ∧ BSteps.Has wr2 (.slice r2 N2 c2) (Sy.steps (Sy.nf (es.map Sy.turn)) (j2 : Int))) ∧ Below we.heap.size we wr2 ∧ Sy.degTo (Sy.nf es) (j2 + 1) = max D N1) := ⟨⟨hT2, hh1, hh2⟩, hbr, hds⟩
                clear hT2 hh1 hh2 hbr hds hu1 hu2 hN1 hN2 hD hdl hsl hsz
                by_cases hgt : D < N1
                · have q5 : (D : Int) < (N1 : Int) := by omega
                  by_cases h40 : j2 < 40
                  · have q6 : decide ((j2 : Int) < 40) = true := by simp; omega
                    have q7 : (j2 : Int) < 40 := by omega
                    have q8 : decide (j2 < 40) = true := by simp; omega
                    go_upto_region 22 with fail
                    refine wp_region_held_drew (S := (fun w' => (w'.cell? ⟨o1, j2, none⟩ = some (.slice r1 N1 c1) ∧ w'.cell? ⟨o2, j2, none⟩ = some (.slice r2 N2 c2)) ∧ Hid (Below wr2.heap.size wr2 w'))) (by kernel_rfl) ?_ (fun hHeld => ?_)
                    · exact ⟨⟨y1, y2⟩, ((Below.refl _ _).drew : Below wr2.heap.size wr2 wr2.drew)⟩
                    refine wpAnyH_take (i := 0) (oi := _) (v := ?_) rfl (by kernel_rfl) (by kernel_rfl) (by kernel_rfl) (fun _ _ _ h => h) (Or.inl ⟨by rfl, ?_⟩) (by assumption) ?_
                    rotate_left
                    · (intro w hSw; (try dsimp only at hSw); go_simp; (try with_reducible rfl))
                    (try simp only [List.getElem_toArray, List.getElem_cons_succ, List.getElem_cons_zero, Act.put, List.setIfInBounds_toArray, List.set_cons_zero, List.set_cons_succ])
                    refine wpAnyH_take (i := 1) (oi := _) (v := ?_) rfl (by kernel_rfl) (by kernel_rfl) (by kernel_rfl) (fun _ _ _ h => h) (Or.inl ⟨by rfl, ?_⟩) (by assumption) ?_
                    rotate_left
                    · (intro w hSw; (try dsimp only at hSw); go_simp; (try with_reducible rfl))
                    (try simp only [List.getElem_toArray, List.getElem_cons_succ, List.getElem_cons_zero, Act.put, List.setIfInBounds_toArray, List.set_cons_zero, List.set_cons_succ])
                    refine wpAnyH_take (i := 2) (oi := _) (v := ?_) rfl (by kernel_rfl) (by kernel_rfl) (by kernel_rfl) (fun _ _ _ h => h) (Or.inl ⟨by rfl, ?_⟩) (by assumption) ?_
                    rotate_left
                    · (intro w hSw; (try dsimp only at hSw); go_simp; (try with_reducible rfl))
                    (try simp only [List.getElem_toArray, List.getElem_cons_succ, List.getElem_cons_zero, Act.put, List.setIfInBounds_toArray, List.set_cons_zero, List.set_cons_succ])
                    refine wpAnyH_take (i := 3) (oi := _) (v := ?_) rfl (by kernel_rfl) (by kernel_rfl) (by kernel_rfl) (fun _ _ _ h => h) (Or.inl ⟨by rfl, ?_⟩) (by assumption) ?_
                    rotate_left
                    · (intro w hSw; (try dsimp only at hSw); go_simp; (try with_reducible rfl))
                    (try simp only [List.getElem_toArray, List.getElem_cons_succ, List.getElem_cons_zero, Act.put, List.setIfInBounds_toArray, List.set_cons_zero, List.set_cons_succ])
                    refine wpAnyH_take (i := 4) (oi := _) (v := ?_) rfl (by kernel_rfl) (by kernel_rfl) (by kernel_rfl) (fun _ _ _ h => h) (Or.inl ⟨by rfl, ?_⟩) (by assumption) ?_
                    rotate_left
                    · (intro w hSw; (try dsimp only at hSw); go_simp; (try with_reducible rfl))
                    (try simp only [List.getElem_toArray, List.getElem_cons_succ, List.getElem_cons_zero, Act.put, List.setIfInBounds_toArray, List.set_cons_zero, List.set_cons_succ])
                    refine wpAnyH_take (i := 6) (oi := _) (v := ?_) rfl (by kernel_rfl) (by kernel_rfl) (by kernel_rfl) (fun _ _ _ h => h) (Or.inl ⟨by rfl, ?_⟩) (by assumption) ?_
                    rotate_left
                    · (intro w hSw; (try dsimp only at hSw); go_simp; (try with_reducible rfl))
                    (try simp only [List.getElem_toArray, List.getElem_cons_succ, List.getElem_cons_zero, Act.put, List.setIfInBounds_toArray, List.set_cons_zero, List.set_cons_succ])
                    refine wpAnyH_take (i := 7) (oi := _) (v := ?_) rfl (by kernel_rfl) (by kernel_rfl) (by kernel_rfl) (fun _ _ _ h => h) (Or.inl ⟨by rfl, ?_⟩) (by assumption) ?_
                    rotate_left
                    · (intro w hSw; (try dsimp only at hSw); go_simp; (try with_reducible rfl))
                    (try simp only [List.getElem_toArray, List.getElem_cons_succ, List.getElem_cons_zero, Act.put, List.setIfInBounds_toArray, List.set_cons_zero, List.set_cons_succ])
                    refine wpAnyH_take (i := 8) (oi := _) (v := ?_) rfl (by kernel_rfl) (by kernel_rfl) (by kernel_rfl) (fun _ _ _ h => h) (Or.inl ⟨by rfl, ?_⟩) (by assumption) ?_
                    rotate_left
                    · (intro w hSw; (try dsimp only at hSw); go_simp; (try with_reducible rfl))
                    (try simp only [List.getElem_toArray, List.getElem_cons_succ, List.getElem_cons_zero, Act.put, List.setIfInBounds_toArray, List.set_cons_zero, List.set_cons_succ])
                    refine wpAnyH_take (i := 9) (oi := _) (v := ?_) rfl (by kernel_rfl) (by kernel_rfl) (by kernel_rfl) (fun _ _ _ h => h) (Or.inl ⟨by rfl, ?_⟩) (by assumption) ?_
                    rotate_left
                    · (intro w hSw; (try dsimp only at hSw); go_simp; (try with_reducible rfl))
                    (try simp only [List.getElem_toArray, List.getElem_cons_succ, List.getElem_cons_zero, Act.put, List.setIfInBounds_toArray, List.set_cons_zero, List.set_cons_succ])
                    refine wpAnyH_ready (rs := [5]) (by kernel_rfl) (by simp) ?_
                    refine AllReadyH.cons (o := _) rfl (fun K hK => ?_) ?_
                    · (go_simp; go_at_call 15; refine Calls.mono (out_any (j2 : Int) _ (HX.out.1.1.gr.below hHeld.2.out)) ?_; rintro r w21 ⟨u21, rfl, hO21, hb21⟩; have hq21 := rowOf_own (Sy.rowOf_at (Sy.nf es) hlt2) hO21; clear hO21; obtain ⟨a21, k21, hu21⟩ := has_shape hq21; subst hu21; have HO21 : Hid (BSteps.Has w21 _ (Sy.steps (Sy.nf es) (j2 : Int))) := hq21; clear hq21)
                      (try go_wp2_with fail)
                      refine hK.out _ _ ?_ (fun hHeld => ?_)
                      · exact ⟨⟨cell_up hHeld.1.1 hb21, cell_up hHeld.1.2 hb21⟩, bel5 hb21 hHeld.2.out⟩
                      clear hK K
                      (try simp only [List.getElem_toArray, List.getElem_cons_succ, List.getElem_cons_zero, Act.put, List.setIfInBounds_toArray, List.set_cons_zero, List.set_cons_succ])
                      clear hb21
                      refine wpAnyH_ready (rs := [10]) (by kernel_rfl) (by simp) ?_
                      refine AllReadyH.cons (o := _) rfl (fun K hK => ?_) ?_
                      · (go_simp; go_at_call 14; refine Calls.mono (BSteps.same_b _ _ _ _ (steps_big HX.out.1.1.gr (j2 : Int)) HO21.out (HX.out.1.2.1.below hHeld.2.out)) ?_; rintro r w22 ⟨rfl, hb22⟩)
                        (try go_wp2_with fail)
                        refine hK.out _ _ ?_ (fun hHeld => ?_)
                        · exact ⟨⟨cell_up hHeld.1.1 hb22, cell_up hHeld.1.2 hb22⟩, bel5 hb22 hHeld.2.out⟩
                        clear hK K
                        (try simp only [List.getElem_toArray, List.getElem_cons_succ, List.getElem_cons_zero, Act.put, List.setIfInBounds_toArray, List.set_cons_zero, List.set_cons_succ])
                        clear hb22
                        refine wpAnyH_take (i := 11) (oi := _) (v := ?_) rfl (by kernel_rfl) (by kernel_rfl) (by kernel_rfl) (fun _ _ _ h => h) (Or.inl ⟨by rfl, ?_⟩) (by assumption) ?_
                        rotate_left
                        · (intro w hSw; (try dsimp only at hSw); go_simp; (try with_reducible rfl))
                        (try simp only [List.getElem_toArray, List.getElem_cons_succ, List.getElem_cons_zero, Act.put, List.setIfInBounds_toArray, List.set_cons_zero, List.set_cons_succ])
                        refine wpAnyH_take (i := 12) (oi := _) (v := ?_) rfl (by kernel_rfl) (by kernel_rfl) (by kernel_rfl) (fun _ _ _ h => h) (Or.inl ⟨by rfl, ?_⟩) (by assumption) ?_
                        rotate_left
                        · (intro w hSw; (try dsimp only at hSw); go_simp; (try with_reducible rfl))
                        (try simp only [List.getElem_toArray, List.getElem_cons_succ, List.getElem_cons_zero, Act.put, List.setIfInBounds_toArray, List.set_cons_zero, List.set_cons_succ])
                        refine wpAnyH_take (i := 13) (oi := _) (v := ?_) rfl (by kernel_rfl) (by kernel_rfl) (by kernel_rfl) (fun _ _ _ h => h) (Or.inl ⟨by rfl, ?_⟩) (by assumption) ?_
                        rotate_left
                        · (intro w hSw; (try dsimp only at hSw); go_simp; (try with_reducible rfl))
                        (try simp only [List.getElem_toArray, List.getElem_cons_succ, List.getElem_cons_zero, Act.put, List.setIfInBounds_toArray, List.set_cons_zero, List.set_cons_succ])
                        refine wpAnyH_take (i := 14) (oi := _) (v := ?_) rfl (by kernel_rfl) (by kernel_rfl) (by kernel_rfl) (fun _ _ _ h => h) (Or.inl ⟨by rfl, ?_⟩) (by assumption) ?_
                        rotate_left
                        · (intro w hSw; (try dsimp only at hSw); go_simp; (try with_reducible rfl))
                        (try simp only [List.getElem_toArray, List.getElem_cons_succ, List.getElem_cons_zero, Act.put, List.setIfInBounds_toArray, List.set_cons_zero, List.set_cons_succ])
                        refine wpAnyH_take (i := 16) (oi := _) (v := ?_) rfl (by kernel_rfl) (by kernel_rfl) (by kernel_rfl) (fun _ _ _ h => h) (Or.inl ⟨by rfl, ?_⟩) (by assumption) ?_
                        rotate_left
                        · (intro w hSw; (try dsimp only at hSw); go_simp; (try with_reducible rfl))
                        (try simp only [List.getElem_toArray, List.getElem_cons_succ, List.getElem_cons_zero, Act.put, List.setIfInBounds_toArray, List.set_cons_zero, List.set_cons_succ])
                        refine wpAnyH_take (i := 17) (oi := _) (v := ?_) rfl (by kernel_rfl) (by kernel_rfl) (by kernel_rfl) (fun _ _ _ h => h) (Or.inl ⟨by rfl, ?_⟩) (by assumption) ?_
                        rotate_left
                        · (intro w hSw; (try dsimp only at hSw); go_simp; (try with_reducible rfl))
                        (try simp only [List.getElem_toArray, List.getElem_cons_succ, List.getElem_cons_zero, Act.put, List.setIfInBounds_toArray, List.set_cons_zero, List.set_cons_succ])
                        refine wpAnyH_take (i := 18) (oi := _) (v := ?_) rfl (by kernel_rfl) (by kernel_rfl) (by kernel_rfl) (fun _ _ _ h => h) (Or.inl ⟨by rfl, ?_⟩) (by assumption) ?_
                        rotate_left
                        · (intro w hSw; (try dsimp only at hSw); go_simp; (try with_reducible rfl))
                        (try simp only [List.getElem_toArray, List.getElem_cons_succ, List.getElem_cons_zero, Act.put, List.setIfInBounds_toArray, List.set_cons_zero, List.set_cons_succ])
                        refine wpAnyH_take (i := 19) (oi := _) (v := ?_) rfl (by kernel_rfl) (by kernel_rfl) (by kernel_rfl) (fun _ _ _ h => h) (Or.inl ⟨by rfl, ?_⟩) (by assumption) ?_
                        rotate_left
                        · (intro w hSw; (try dsimp only at hSw); go_simp; (try with_reducible rfl))
                        (try simp only [List.getElem_toArray, List.getElem_cons_succ, List.getElem_cons_zero, Act.put, List.setIfInBounds_toArray, List.set_cons_zero, List.set_cons_succ])
                        refine wpAnyH_ready (rs := [15]) (by kernel_rfl) (by simp) ?_
                        refine AllReadyH.cons (o := _) rfl (fun K hK => ?_) ?_
                        · (go_simp; go_at_call 16; refine Calls.mono (in_any (j2 : Int) _ (HX.out.1.1.gr.below hHeld.2.out)) ?_; rintro r w23 ⟨u23, rfl, hO23, hb23⟩; have hq23 := rowOf_own (Sy.rowOf_turn es hlt2) hO23; clear hO23; obtain ⟨a23, k23, hu23⟩ := has_shape hq23; subst hu23; have HO23 : Hid (BSteps.Has w23 _ (Sy.steps (Sy.nf (es.map Sy.turn)) (j2 : Int))) := hq23; clear hq23)
                          (try go_wp2_with fail)
                          refine hK.out _ _ ?_ (fun hHeld => ?_)
                          · exact ⟨⟨cell_up hHeld.1.1 hb23, cell_up hHeld.1.2 hb23⟩, bel5 hb23 hHeld.2.out⟩
                          clear hK K
                          (try simp only [List.getElem_toArray, List.getElem_cons_succ, List.getElem_cons_zero, Act.put, List.setIfInBounds_toArray, List.set_cons_zero, List.set_cons_succ])
                          clear hb23
                          refine wpAnyH_ready (rs := [20]) (by kernel_rfl) (by simp) ?_
                          refine AllReadyH.cons (o := _) rfl (fun K hK => ?_) ?_
                          · (go_simp; go_at_call 14; refine Calls.mono (BSteps.same_b _ _ _ _ (steps_bigIn HX.out.1.1.gr (j2 : Int)) HO23.out (HX.out.1.2.2.below hHeld.2.out)) ?_; rintro r w24 ⟨rfl, hb24⟩)
                            (try go_wp2_with fail)
                            refine hK.out _ _ ?_ (fun hHeld => ?_)
                            · exact ⟨⟨cell_up hHeld.1.1 hb24, cell_up hHeld.1.2 hb24⟩, bel5 hb24 hHeld.2.out⟩
                            clear hK K
                            (try simp only [List.getElem_toArray, List.getElem_cons_succ, List.getElem_cons_zero, Act.put, List.setIfInBounds_toArray, List.set_cons_zero, List.set_cons_succ])
                            clear hb24
                            refine wpAnyH_take (i := 21) (oi := _) (v := ?_) rfl (by kernel_rfl) (by kernel_rfl) (by kernel_rfl) (fun _ _ _ h => h) (Or.inl ⟨by rfl, ?_⟩) (by assumption) ?_
                            rotate_left
                            · (intro w hSw; (try dsimp only at hSw); go_simp; (try with_reducible rfl))
                            (try simp only [List.getElem_toArray, List.getElem_cons_succ, List.getElem_cons_zero, Act.put, List.setIfInBounds_toArray, List.set_cons_zero, List.set_cons_succ])
                            refine wpAnyH_take (i := 22) (oi := _) (v := ?_) rfl (by kernel_rfl) (by kernel_rfl) (by kernel_rfl) (fun _ _ _ h => h) (Or.inl ⟨by rfl, ?_⟩) (by assumption) ?_
                            rotate_left
                            · (intro w hSw; (try dsimp only at hSw); go_simp; (try with_reducible rfl))
                            (try simp only [List.getElem_toArray, List.getElem_cons_succ, List.getElem_cons_zero, Act.put, List.setIfInBounds_toArray, List.set_cons_zero, List.set_cons_succ])
                            refine wpAnyH_take (i := 23) (oi := _) (v := ?_) rfl (by kernel_rfl) (by kernel_rfl) (by kernel_rfl) (fun _ _ _ h => h) (Or.inl ⟨by rfl, ?_⟩) (by assumption) ?_
                            rotate_left
                            · (intro w hSw; (try dsimp only at hSw); go_simp; (try with_reducible rfl))
                            (try simp only [List.getElem_toArray, List.getElem_cons_succ, List.getElem_cons_zero, Act.put, List.setIfInBounds_toArray, List.set_cons_zero, List.set_cons_succ])
                            refine wpAnyH_done (by kernel_rfl) ?_ _
                            (try go_simp)
                            have HE : Hid _ := hHeld.2.out
                            go_wp2_with fail
                            go_roundg (m - (j2 + 1))
                            case measure => omega
                            case rel => exact ⟨j2 + 1, rfl, by omega, by rw [HX.out.2.2, Nat.max_eq_right (by omega)], by go_num, bel5 HE.out HX.out.2.1⟩
                          exact AllReadyH.nil
                        exact AllReadyH.nil
                      exact AllReadyH.nil
                    exact AllReadyH.nil
                  · have q6 : decide ((j2 : Int) < 40) = false := by simp; omega
                    have q7 : ¬ (j2 : Int) < 40 := by omega
                    have q8 : decide (j2 < 40) = false := by simp; omega
                    go_upto_region 22 with fail
                    refine wp_region_held_drew (S := (fun w' => (w'.cell? ⟨o1, j2, none⟩ = some (.slice r1 N1 c1) ∧ w'.cell? ⟨o2, j2, none⟩ = some (.slice r2 N2 c2)) ∧ Hid (Below wr2.heap.size wr2 w'))) (by kernel_rfl) ?_ (fun hHeld => ?_)
                    · exact ⟨⟨y1, y2⟩, ((Below.refl _ _).drew : Below wr2.heap.size wr2 wr2.drew)⟩
                    refine wpAnyH_take (i := 0) (oi := _) (v := ?_) rfl (by kernel_rfl) (by kernel_rfl) (by kernel_rfl) (fun _ _ _ h => h) (Or.inl ⟨by rfl, ?_⟩) (by assumption) ?_
                    rotate_left
                    · (intro w hSw; (try dsimp only at hSw); go_simp; (try with_reducible rfl))
                    (try simp only [List.getElem_toArray, List.getElem_cons_succ, List.getElem_cons_zero, Act.put, List.setIfInBounds_toArray, List.set_cons_zero, List.set_cons_succ])
                    refine wpAnyH_take (i := 1) (oi := _) (v := ?_) rfl (by kernel_rfl) (by kernel_rfl) (by kernel_rfl) (fun _ _ _ h => h) (Or.inl ⟨by rfl, ?_⟩) (by assumption) ?_
                    rotate_left
                    · (intro w hSw; (try dsimp only at hSw); go_simp; (try with_reducible rfl))
                    (try simp only [List.getElem_toArray, List.getElem_cons_succ, List.getElem_cons_zero, Act.put, List.setIfInBounds_toArray, List.set_cons_zero, List.set_cons_succ])
                    refine wpAnyH_take (i := 2) (oi := _) (v := ?_) rfl (by kernel_rfl) (by kernel_rfl) (by kernel_rfl) (fun _ _ _ h => h) (Or.inl ⟨by rfl, ?_⟩) (by assumption) ?_
                    rotate_left
                    · (intro w hSw; (try dsimp only at hSw); go_simp; (try with_reducible rfl))
                    (try simp only [List.getElem_toArray, List.getElem_cons_succ, List.getElem_cons_zero, Act.put, List.setIfInBounds_toArray, List.set_cons_zero, List.set_cons_succ])
                    refine wpAnyH_take (i := 3) (oi := _) (v := undef) rfl (by kernel_rfl) (by kernel_rfl) (by kernel_rfl) (fun _ _ _ h => h) (Or.inr ⟨by rfl, rfl⟩) (by assumption) ?_
                    (try simp only [List.getElem_toArray, List.getElem_cons_succ, List.getElem_cons_zero, Act.put, List.setIfInBounds_toArray, List.set_cons_zero, List.set_cons_succ])
                    refine wpAnyH_take (i := 4) (oi := _) (v := undef) rfl (by kernel_rfl) (by kernel_rfl) (by kernel_rfl) (fun _ _ _ h => h) (Or.inr ⟨by rfl, rfl⟩) (by assumption) ?_
                    (try simp only [List.getElem_toArray, List.getElem_cons_succ, List.getElem_cons_zero, Act.put, List.setIfInBounds_toArray, List.set_cons_zero, List.set_cons_succ])
                    refine wpAnyH_take (i := 5) (oi := _) (v := undef) rfl (by kernel_rfl) (by kernel_rfl) (by kernel_rfl) (fun _ _ _ h => h) (Or.inr ⟨by rfl, rfl⟩) (by assumption) ?_
                    (try simp only [List.getElem_toArray, List.getElem_cons_succ, List.getElem_cons_zero, Act.put, List.setIfInBounds_toArray, List.set_cons_zero, List.set_cons_succ])
                    refine wpAnyH_take (i := 6) (oi := _) (v := undef) rfl (by kernel_rfl) (by kernel_rfl) (by kernel_rfl) (fun _ _ _ h => h) (Or.inr ⟨by rfl, rfl⟩) (by assumption) ?_
                    (try simp only [List.getElem_toArray, List.getElem_cons_succ, List.getElem_cons_zero, Act.put, List.setIfInBounds_toArray, List.set_cons_zero, List.set_cons_succ])
                    refine wpAnyH_take (i := 7) (oi := _) (v := undef) rfl (by kernel_rfl) (by kernel_rfl) (by kernel_rfl) (fun _ _ _ h => h) (Or.inr ⟨by rfl, rfl⟩) (by assumption) ?_
                    (try simp only [List.getElem_toArray, List.getElem_cons_succ, List.getElem_cons_zero, Act.put, List.setIfInBounds_toArray, List.set_cons_zero, List.set_cons_succ])
                    refine wpAnyH_take (i := 8) (oi := _) (v := undef) rfl (by kernel_rfl) (by kernel_rfl) (by kernel_rfl) (fun _ _ _ h => h) (Or.inr ⟨by rfl, rfl⟩) (by assumption) ?_
                    (try simp only [List.getElem_toArray, List.getElem_cons_succ, List.getElem_cons_zero, Act.put, List.setIfInBounds_toArray, List.set_cons_zero, List.set_cons_succ])
                    refine wpAnyH_take (i := 9) (oi := _) (v := undef) rfl (by kernel_rfl) (by kernel_rfl) (by kernel_rfl) (fun _ _ _ h => h) (Or.inr ⟨by rfl, rfl⟩) (by assumption) ?_
                    (try simp only [List.getElem_toArray, List.getElem_cons_succ, List.getElem_cons_zero, Act.put, List.setIfInBounds_toArray, List.set_cons_zero, List.set_cons_succ])
                    refine wpAnyH_take (i := 10) (oi := _) (v := undef) rfl (by kernel_rfl) (by kernel_rfl) (by kernel_rfl) (fun _ _ _ h => h) (Or.inr ⟨by rfl, rfl⟩) (by assumption) ?_
                    (try simp only [List.getElem_toArray, List.getElem_cons_succ, List.getElem_cons_zero, Act.put, List.setIfInBounds_toArray, List.set_cons_zero, List.set_cons_succ])
                    refine wpAnyH_take (i := 11) (oi := _) (v := undef) rfl (by kernel_rfl) (by kernel_rfl) (by kernel_rfl) (fun _ _ _ h => h) (Or.inr ⟨by rfl, rfl⟩) (by assumption) ?_
                    (try simp only [List.getElem_toArray, List.getElem_cons_succ, List.getElem_cons_zero, Act.put, List.setIfInBounds_toArray, List.set_cons_zero, List.set_cons_succ])
                    refine wpAnyH_take (i := 12) (oi := _) (v := undef) rfl (by kernel_rfl) (by kernel_rfl) (by kernel_rfl) (fun _ _ _ h => h) (Or.inr ⟨by rfl, rfl⟩) (by assumption) ?_
                    (try simp only [List.getElem_toArray, List.getElem_cons_succ, List.getElem_cons_zero, Act.put, List.setIfInBounds_toArray, List.set_cons_zero, List.set_cons_succ])
                    refine wpAnyH_take (i := 13) (oi := _) (v := undef) rfl (by kernel_rfl) (by kernel_rfl) (by kernel_rfl) (fun _ _ _ h => h) (Or.inr ⟨by rfl, rfl⟩) (by assumption) ?_
                    (try simp only [List.getElem_toArray, List.getElem_cons_succ, List.getElem_cons_zero, Act.put, List.setIfInBounds_toArray, List.set_cons_zero, List.set_cons_succ])
                    refine wpAnyH_take (i := 14) (oi := _) (v := undef) rfl (by kernel_rfl) (by kernel_rfl) (by kernel_rfl) (fun _ _ _ h => h) (Or.inr ⟨by rfl, rfl⟩) (by assumption) ?_
                    (try simp only [List.getElem_toArray, List.getElem_cons_succ, List.getElem_cons_zero, Act.put, List.setIfInBounds_toArray, List.set_cons_zero, List.set_cons_succ])
                    refine wpAnyH_take (i := 15) (oi := _) (v := undef) rfl (by kernel_rfl) (by kernel_rfl) (by kernel_rfl) (fun _ _ _ h => h) (Or.inr ⟨by rfl, rfl⟩) (by assumption) ?_
                    (try simp only [List.getElem_toArray, List.getElem_cons_succ, List.getElem_cons_zero, Act.put, List.setIfInBounds_toArray, List.set_cons_zero, List.set_cons_succ])
                    refine wpAnyH_take (i := 16) (oi := _) (v := undef) rfl (by kernel_rfl) (by kernel_rfl) (by kernel_rfl) (fun _ _ _ h => h) (Or.inr ⟨by rfl, rfl⟩) (by assumption) ?_
                    (try simp only [List.getElem_toArray, List.getElem_cons_succ, List.getElem_cons_zero, Act.put, List.setIfInBounds_toArray, List.set_cons_zero, List.set_cons_succ])
                    refine wpAnyH_take (i := 17) (oi := _) (v := undef) rfl (by kernel_rfl) (by kernel_rfl) (by kernel_rfl) (fun _ _ _ h => h) (Or.inr ⟨by rfl, rfl⟩) (by assumption) ?_
                    (try simp only [List.getElem_toArray, List.getElem_cons_succ, List.getElem_cons_zero, Act.put, List.setIfInBounds_toArray, List.set_cons_zero, List.set_cons_succ])
                    refine wpAnyH_take (i := 18) (oi := _) (v := undef) rfl (by kernel_rfl) (by kernel_rfl) (by kernel_rfl) (fun _ _ _ h => h) (Or.inr ⟨by rfl, rfl⟩) (by assumption) ?_
                    (try simp only [List.getElem_toArray, List.getElem_cons_succ, List.getElem_cons_zero, Act.put, List.setIfInBounds_toArray, List.set_cons_zero, List.set_cons_succ])
                    refine wpAnyH_take (i := 19) (oi := _) (v := undef) rfl (by kernel_rfl) (by kernel_rfl) (by kernel_rfl) (fun _ _ _ h => h) (Or.inr ⟨by rfl, rfl⟩) (by assumption) ?_
                    (try simp only [List.getElem_toArray, List.getElem_cons_succ, List.getElem_cons_zero, Act.put, List.setIfInBounds_toArray, List.set_cons_zero, List.set_cons_succ])
                    refine wpAnyH_take (i := 20) (oi := _) (v := undef) rfl (by kernel_rfl) (by kernel_rfl) (by kernel_rfl) (fun _ _ _ h => h) (Or.inr ⟨by rfl, rfl⟩) (by assumption) ?_
                    (try simp only [List.getElem_toArray, List.getElem_cons_succ, List.getElem_cons_zero, Act.put, List.setIfInBounds_toArray, List.set_cons_zero, List.set_cons_succ])
                    refine wpAnyH_take (i := 21) (oi := _) (v := undef) rfl (by kernel_rfl) (by kernel_rfl) (by kernel_rfl) (fun _ _ _ h => h) (Or.inr ⟨by rfl, rfl⟩) (by assumption) ?_
                    (try simp only [List.getElem_toArray, List.getElem_cons_succ, List.getElem_cons_zero, Act.put, List.setIfInBounds_toArray, List.set_cons_zero, List.set_cons_succ])
                    refine wpAnyH_take (i := 22) (oi := _) (v := undef) rfl (by kernel_rfl) (by kernel_rfl) (by kernel_rfl) (fun _ _ _ h => h) (Or.inr ⟨by rfl, rfl⟩) (by assumption) ?_
                    (try simp only [List.getElem_toArray, List.getElem_cons_succ, List.getElem_cons_zero, Act.put, List.setIfInBounds_toArray, List.set_cons_zero, List.set_cons_succ])
                    refine wpAnyH_take (i := 23) (oi := _) (v := ?_) rfl (by kernel_rfl) (by kernel_rfl) (by kernel_rfl) (fun _ _ _ h => h) (Or.inl ⟨by rfl, ?_⟩) (by assumption) ?_
                    rotate_left
                    · (intro w hSw; (try dsimp only at hSw); go_simp; (try with_reducible rfl))
                    (try simp only [List.getElem_toArray, List.getElem_cons_succ, List.getElem_cons_zero, Act.put, List.setIfInBounds_toArray, List.set_cons_zero, List.set_cons_succ])
                    refine wpAnyH_done (by kernel_rfl) ?_ _
                    (try go_simp)
                    have HE : Hid _ := hHeld.2.out
                    go_wp2_with fail
                    go_roundg (m - (j2 + 1))
                    case measure => omega
                    case rel => exact ⟨j2 + 1, rfl, by omega, by rw [HX.out.2.2, Nat.max_eq_right (by omega)], by go_num, bel5 HE.out HX.out.2.1⟩
                · have q5 : ¬ (D : Int) < (N1 : Int) := by omega
                  by_cases h40 : j2 < 40
                  · have q6 : decide ((j2 : Int) < 40) = true := by simp; omega
                    have q7 : (j2 : Int) < 40 := by omega
                    have q8 : decide (j2 < 40) = true := by simp; omega
                    go_upto_region 22 with fail
                    refine wp_region_held_drew (S := (fun w' => (w'.cell? ⟨o1, j2, none⟩ = some (.slice r1 N1 c1) ∧ w'.cell? ⟨o2, j2, none⟩ = some (.slice r2 N2 c2)) ∧ Hid (Below wr2.heap.size wr2 w'))) (by kernel_rfl) ?_ (fun hHeld => ?_)
                    · exact ⟨⟨y1, y2⟩, ((Below.refl _ _).drew : Below wr2.heap.size wr2 wr2.drew)⟩
                    refine wpAnyH_take (i := 0) (oi := _) (v := ?_) rfl (by kernel_rfl) (by kernel_rfl) (by kernel_rfl) (fun _ _ _ h => h) (Or.inl ⟨by rfl, ?_⟩) (by assumption) ?_
                    rotate_left
                    · (intro w hSw; (try dsimp only at hSw); go_simp; (try with_reducible rfl))
                    (try simp only [List.getElem_toArray, List.getElem_cons_succ, List.getElem_cons_zero, Act.put, List.setIfInBounds_toArray, List.set_cons_zero, List.set_cons_succ])
                    refine wpAnyH_take (i := 1) (oi := _) (v := ?_) rfl (by kernel_rfl) (by kernel_rfl) (by kernel_rfl) (fun _ _ _ h => h) (Or.inl ⟨by rfl, ?_⟩) (by assumption) ?_
                    rotate_left
                    · (intro w hSw; (try dsimp only at hSw); go_simp; (try with_reducible rfl))
                    (try simp only [List.getElem_toArray, List.getElem_cons_succ, List.getElem_cons_zero, Act.put, List.setIfInBounds_toArray, List.set_cons_zero, List.set_cons_succ])
                    refine wpAnyH_take (i := 2) (oi := _) (v := ?_) rfl (by kernel_rfl) (by kernel_rfl) (by kernel_rfl) (fun _ _ _ h => h) (Or.inl ⟨by rfl, ?_⟩) (by assumption) ?_
                    rotate_left
                    · (intro w hSw; (try dsimp only at hSw); go_simp; (try with_reducible rfl))
                    (try simp only [List.getElem_toArray, List.getElem_cons_succ, List.getElem_cons_zero, Act.put, List.setIfInBounds_toArray, List.set_cons_zero, List.set_cons_succ])
                    refine wpAnyH_take (i := 3) (oi := _) (v := ?_) rfl (by kernel_rfl) (by kernel_rfl) (by kernel_rfl) (fun _ _ _ h => h) (Or.inl ⟨by rfl, ?_⟩) (by assumption) ?_
                    rotate_left
                    · (intro w hSw; (try dsimp only at hSw); go_simp; (try with_reducible rfl))
                    (try simp only [List.getElem_toArray, List.getElem_cons_succ, List.getElem_cons_zero, Act.put, List.setIfInBounds_toArray, List.set_cons_zero, List.set_cons_succ])
                    refine wpAnyH_take (i := 4) (oi := _) (v := ?_) rfl (by kernel_rfl) (by kernel_rfl) (by kernel_rfl) (fun _ _ _ h => h) (Or.inl ⟨by rfl, ?_⟩) (by assumption) ?_
                    rotate_left
                    · (intro w hSw; (try dsimp only at hSw); go_simp; (try with_reducible rfl))
                    (try simp only [List.getElem_toArray, List.getElem_cons_succ, List.getElem_cons_zero, Act.put, List.setIfInBounds_toArray, List.set_cons_zero, List.set_cons_succ])
                    refine wpAnyH_take (i := 6) (oi := _) (v := ?_) rfl (by kernel_rfl) (by kernel_rfl) (by kernel_rfl) (fun _ _ _ h => h) (Or.inl ⟨by rfl, ?_⟩) (by assumption) ?_
                    rotate_left
                    · (intro w hSw; (try dsimp only at hSw); go_simp; (try with_reducible rfl))
                    (try simp only [List.getElem_toArray, List.getElem_cons_succ, List.getElem_cons_zero, Act.put, List.setIfInBounds_toArray, List.set_cons_zero, List.set_cons_succ])
                    refine wpAnyH_take (i := 7) (oi := _) (v := ?_) rfl (by kernel_rfl) (by kernel_rfl) (by kernel_rfl) (fun _ _ _ h => h) (Or.inl ⟨by rfl, ?_⟩) (by assumption) ?_
                    rotate_left
                    · (intro w hSw; (try dsimp only at hSw); go_simp; (try with_reducible rfl))
                    (try simp only [List.getElem_toArray, List.getElem_cons_succ, List.getElem_cons_zero, Act.put, List.setIfInBounds_toArray, List.set_cons_zero, List.set_cons_succ])
                    refine wpAnyH_take (i := 8) (oi := _) (v := ?_) rfl (by kernel_rfl) (by kernel_rfl) (by kernel_rfl) (fun _ _ _ h => h) (Or.inl ⟨by rfl, ?_⟩) (by assumption) ?_
                    rotate_left
                    · (intro w hSw; (try dsimp only at hSw); go_simp; (try with_reducible rfl))
                    (try simp only [List.getElem_toArray, List.getElem_cons_succ, List.getElem_cons_zero, Act.put, List.setIfInBounds_toArray, List.set_cons_zero, List.set_cons_succ])
                    refine wpAnyH_take (i := 9) (oi := _) (v := ?_) rfl (by kernel_rfl) (by kernel_rfl) (by kernel_rfl) (fun _ _ _ h => h) (Or.inl ⟨by rfl, ?_⟩) (by assumption) ?_
                    rotate_left
                    · (intro w hSw; (try dsimp only at hSw); go_simp; (try with_reducible rfl))
                    (try simp only [List.getElem_toArray, List.getElem_cons_succ, List.getElem_cons_zero, Act.put, List.setIfInBounds_toArray, List.set_cons_zero, List.set_cons_succ])
                    refine wpAnyH_ready (rs := [5]) (by kernel_rfl) (by simp) ?_
                    refine AllReadyH.cons (o := _) rfl (fun K hK => ?_) ?_
                    · (go_simp; go_at_call 15; refine Calls.mono (out_any (j2 : Int) _ (HX.out.1.1.gr.below hHeld.2.out)) ?_; rintro r w21 ⟨u21, rfl, hO21, hb21⟩; have hq21 := rowOf_own (Sy.rowOf_at (Sy.nf es) hlt2) hO21; clear hO21; obtain ⟨a21, k21, hu21⟩ := has_shape hq21; subst hu21; have HO21 : Hid (BSteps.Has w21 _ (Sy.steps (Sy.nf es) (j2 : Int))) := hq21; clear hq21)
                      (try go_wp2_with fail)
                      refine hK.out _ _ ?_ (fun hHeld => ?_)
                      · exact ⟨⟨cell_up hHeld.1.1 hb21, cell_up hHeld.1.2 hb21⟩, bel5 hb21 hHeld.2.out⟩
                      clear hK K
                      (try simp only [List.getElem_toArray, List.getElem_cons_succ, List.getElem_cons_zero, Act.put, List.setIfInBounds_toArray, List.set_cons_zero, List.set_cons_succ])
                      clear hb21
                      refine wpAnyH_ready (rs := [10]) (by kernel_rfl) (by simp) ?_
                      refine AllReadyH.cons (o := _) rfl (fun K hK => ?_) ?_
                      · (go_simp; go_at_call 14; refine Calls.mono (BSteps.same_b _ _ _ _ (steps_big HX.out.1.1.gr (j2 : Int)) HO21.out (HX.out.1.2.1.below hHeld.2.out)) ?_; rintro r w22 ⟨rfl, hb22⟩)
                        (try go_wp2_with fail)
                        refine hK.out _ _ ?_ (fun hHeld => ?_)
                        · exact ⟨⟨cell_up hHeld.1.1 hb22, cell_up hHeld.1.2 hb22⟩, bel5 hb22 hHeld.2.out⟩
                        clear hK K
                        (try simp only [List.getElem_toArray, List.getElem_cons_succ, List.getElem_cons_zero, Act.put, List.setIfInBounds_toArray, List.set_cons_zero, List.set_cons_succ])
                        clear hb22
                        refine wpAnyH_take (i := 11) (oi := _) (v := ?_) rfl (by kernel_rfl) (by kernel_rfl) (by kernel_rfl) (fun _ _ _ h => h) (Or.inl ⟨by rfl, ?_⟩) (by assumption) ?_
                        rotate_left
                        · (intro w hSw; (try dsimp only at hSw); go_simp; (try with_reducible rfl))
                        (try simp only [List.getElem_toArray, List.getElem_cons_succ, List.getElem_cons_zero, Act.put, List.setIfInBounds_toArray, List.set_cons_zero, List.set_cons_succ])
                        refine wpAnyH_take (i := 12) (oi := _) (v := ?_) rfl (by kernel_rfl) (by kernel_rfl) (by kernel_rfl) (fun _ _ _ h => h) (Or.inl ⟨by rfl, ?_⟩) (by assumption) ?_
                        rotate_left
                        · (intro w hSw; (try dsimp only at hSw); go_simp; (try with_reducible rfl))
                        (try simp only [List.getElem_toArray, List.getElem_cons_succ, List.getElem_cons_zero, Act.put, List.setIfInBounds_toArray, List.set_cons_zero, List.set_cons_succ])
                        refine wpAnyH_take (i := 13) (oi := _) (v := ?_) rfl (by kernel_rfl) (by kernel_rfl) (by kernel_rfl) (fun _ _ _ h => h) (Or.inl ⟨by rfl, ?_⟩) (by assumption) ?_
                        rotate_left
                        · (intro w hSw; (try dsimp only at hSw); go_simp; (try with_reducible rfl))
                        (try simp only [List.getElem_toArray, List.getElem_cons_succ, List.getElem_cons_zero, Act.put, List.setIfInBounds_toArray, List.set_cons_zero, List.set_cons_succ])
                        refine wpAnyH_take (i := 14) (oi := _) (v := ?_) rfl (by kernel_rfl) (by kernel_rfl) (by kernel_rfl) (fun _ _ _ h => h) (Or.inl ⟨by rfl, ?_⟩) (by assumption) ?_
                        rotate_left
                        · (intro w hSw; (try dsimp only at hSw); go_simp; (try with_reducible rfl))
                        (try simp only [List.getElem_toArray, List.getElem_cons_succ, List.getElem_cons_zero, Act.put, List.setIfInBounds_toArray, List.set_cons_zero, List.set_cons_succ])
                        refine wpAnyH_take (i := 16) (oi := _) (v := ?_) rfl (by kernel_rfl) (by kernel_rfl) (by kernel_rfl) (fun _ _ _ h => h) (Or.inl ⟨by rfl, ?_⟩) (by assumption) ?_
                        rotate_left
                        · (intro w hSw; (try dsimp only at hSw); go_simp; (try with_reducible rfl))
                        (try simp only [List.getElem_toArray, List.getElem_cons_succ, List.getElem_cons_zero, Act.put, List.setIfInBounds_toArray, List.set_cons_zero, List.set_cons_succ])
                        refine wpAnyH_take (i := 17) (oi := _) (v := ?_) rfl (by kernel_rfl) (by kernel_rfl) (by kernel_rfl) (fun _ _ _ h => h) (Or.inl ⟨by rfl, ?_⟩) (by assumption) ?_
                        rotate_left
                        · (intro w hSw; (try dsimp only at hSw); go_simp; (try with_reducible rfl))
                        (try simp only [List.getElem_toArray, List.getElem_cons_succ, List.getElem_cons_zero, Act.put, List.setIfInBounds_toArray, List.set_cons_zero, List.set_cons_succ])
                        refine wpAnyH_take (i := 18) (oi := _) (v := ?_) rfl (by kernel_rfl) (by kernel_rfl) (by kernel_rfl) (fun _ _ _ h => h) (Or.inl ⟨by rfl, ?_⟩) (by assumption) ?_
                        rotate_left
                        · (intro w hSw; (try dsimp only at hSw); go_simp; (try with_reducible rfl))
                        (try simp only [List.getElem_toArray, List.getElem_cons_succ, List.getElem_cons_zero, Act.put, List.setIfInBounds_toArray, List.set_cons_zero, List.set_cons_succ])
                        refine wpAnyH_take (i := 19) (oi := _) (v := ?_) rfl (by kernel_rfl) (by kernel_rfl) (by kernel_rfl) (fun _ _ _ h => h) (Or.inl ⟨by rfl, ?_⟩) (by assumption) ?_
                        rotate_left
                        · (intro w hSw; (try dsimp only at hSw); go_simp; (try with_reducible rfl))
                        (try simp only [List.getElem_toArray, List.getElem_cons_succ, List.getElem_cons_zero, Act.put, List.setIfInBounds_toArray, List.set_cons_zero, List.set_cons_succ])
                        refine wpAnyH_ready (rs := [15]) (by kernel_rfl) (by simp) ?_
                        refine AllReadyH.cons (o := _) rfl (fun K hK => ?_) ?_
                        · (go_simp; go_at_call 16; refine Calls.mono (in_any (j2 : Int) _ (HX.out.1.1.gr.below hHeld.2.out)) ?_; rintro r w23 ⟨u23, rfl, hO23, hb23⟩; have hq23 := rowOf_own (Sy.rowOf_turn es hlt2) hO23; clear hO23; obtain ⟨a23, k23, hu23⟩ := has_shape hq23; subst hu23; have HO23 : Hid (BSteps.Has w23 _ (Sy.steps (Sy.nf (es.map Sy.turn)) (j2 : Int))) := hq23; clear hq23)
                          (try go_wp2_with fail)
                          refine hK.out _ _ ?_ (fun hHeld => ?_)
                          · exact ⟨⟨cell_up hHeld.1.1 hb23, cell_up hHeld.1.2 hb23⟩, bel5 hb23 hHeld.2.out⟩
                          clear hK K
                          (try simp only [List.getElem_toArray, List.getElem_cons_succ, List.getElem_cons_zero, Act.put, List.setIfInBounds_toArray, List.set_cons_zero, List.set_cons_succ])
                          clear hb23
                          refine wpAnyH_ready (rs := [20]) (by kernel_rfl) (by simp) ?_
                          refine AllReadyH.cons (o := _) rfl (fun K hK => ?_) ?_
                          · (go_simp; go_at_call 14; refine Calls.mono (BSteps.same_b _ _ _ _ (steps_bigIn HX.out.1.1.gr (j2 : Int)) HO23.out (HX.out.1.2.2.below hHeld.2.out)) ?_; rintro r w24 ⟨rfl, hb24⟩)
                            (try go_wp2_with fail)
                            refine hK.out _ _ ?_ (fun hHeld => ?_)
                            · exact ⟨⟨cell_up hHeld.1.1 hb24, cell_up hHeld.1.2 hb24⟩, bel5 hb24 hHeld.2.out⟩
                            clear hK K
                            (try simp only [List.getElem_toArray, List.getElem_cons_succ, List.getElem_cons_zero, Act.put, List.setIfInBounds_toArray, List.set_cons_zero, List.set_cons_succ])
                            clear hb24
                            refine wpAnyH_take (i := 21) (oi := _) (v := ?_) rfl (by kernel_rfl) (by kernel_rfl) (by kernel_rfl) (fun _ _ _ h => h) (Or.inl ⟨by rfl, ?_⟩) (by assumption) ?_
                            rotate_left
                            · (intro w hSw; (try dsimp only at hSw); go_simp; (try with_reducible rfl))
                            (try simp only [List.getElem_toArray, List.getElem_cons_succ, List.getElem_cons_zero, Act.put, List.setIfInBounds_toArray, List.set_cons_zero, List.set_cons_succ])
                            refine wpAnyH_take (i := 22) (oi := _) (v := ?_) rfl (by kernel_rfl) (by kernel_rfl) (by kernel_rfl) (fun _ _ _ h => h) (Or.inl ⟨by rfl, ?_⟩) (by assumption) ?_
                            rotate_left
                            · (intro w hSw; (try dsimp only at hSw); go_simp; (try with_reducible rfl))
                            (try simp only [List.getElem_toArray, List.getElem_cons_succ, List.getElem_cons_zero, Act.put, List.setIfInBounds_toArray, List.set_cons_zero, List.set_cons_succ])
                            refine wpAnyH_take (i := 23) (oi := _) (v := ?_) rfl (by kernel_rfl) (by kernel_rfl) (by kernel_rfl) (fun _ _ _ h => h) (Or.inl ⟨by rfl, ?_⟩) (by assumption) ?_
                            rotate_left
                            · (intro w hSw; (try dsimp only at hSw); go_simp; (try with_reducible rfl))
                            (try simp only [List.getElem_toArray, List.getElem_cons_succ, List.getElem_cons_zero, Act.put, List.setIfInBounds_toArray, List.set_cons_zero, List.set_cons_succ])
                            refine wpAnyH_done (by kernel_rfl) ?_ _
                            (try go_simp)
                            have HE : Hid _ := hHeld.2.out
                            go_wp2_with fail
                            go_roundg (m - (j2 + 1))
                            case measure => omega
                            case rel => exact ⟨j2 + 1, rfl, by omega, by rw [HX.out.2.2, Nat.max_eq_left (by omega)], by go_num, bel5 HE.out HX.out.2.1⟩
                          exact AllReadyH.nil
                        exact AllReadyH.nil
                      exact AllReadyH.nil
                    exact AllReadyH.nil
                  · have q6 : decide ((j2 : Int) < 40) = false := by simp; omega
                    have q7 : ¬ (j2 : Int) < 40 := by omega
                    have q8 : decide (j2 < 40) = false := by simp; omega
                    go_upto_region 22 with fail
                    refine wp_region_held_drew (S := (fun w' => (w'.cell? ⟨o1, j2, none⟩ = some (.slice r1 N1 c1) ∧ w'.cell? ⟨o2, j2, none⟩ = some (.slice r2 N2 c2)) ∧ Hid (Below wr2.heap.size wr2 w'))) (by kernel_rfl) ?_ (fun hHeld => ?_)
                    · exact ⟨⟨y1, y2⟩, ((Below.refl _ _).drew : Below wr2.heap.size wr2 wr2.drew)⟩
                    refine wpAnyH_take (i := 0) (oi := _) (v := ?_) rfl (by kernel_rfl) (by kernel_rfl) (by kernel_rfl) (fun _ _ _ h => h) (Or.inl ⟨by rfl, ?_⟩) (by assumption) ?_
                    rotate_left
                    · (intro w hSw; (try dsimp only at hSw); go_simp; (try with_reducible rfl))
                    (try simp only [List.getElem_toArray, List.getElem_cons_succ, List.getElem_cons_zero, Act.put, List.setIfInBounds_toArray, List.set_cons_zero, List.set_cons_succ])
                    refine wpAnyH_take (i := 1) (oi := _) (v := ?_) rfl (by kernel_rfl) (by kernel_rfl) (by kernel_rfl) (fun _ _ _ h => h) (Or.inl ⟨by rfl, ?_⟩) (by assumption) ?_
                    rotate_left
                    · (intro w hSw; (try dsimp only at hSw); go_simp; (try with_reducible rfl))
                    (try simp only [List.getElem_toArray, List.getElem_cons_succ, List.getElem_cons_zero, Act.put, List.setIfInBounds_toArray, List.set_cons_zero, List.set_cons_succ])
                    refine wpAnyH_take (i := 2) (oi := _) (v := ?_) rfl (by kernel_rfl) (by kernel_rfl) (by kernel_rfl) (fun _ _ _ h => h) (Or.inl ⟨by rfl, ?_⟩) (by assumption) ?_
                    rotate_left
                    · (intro w hSw; (try dsimp only at hSw); go_simp; (try with_reducible rfl))
                    (try simp only [List.getElem_toArray, List.getElem_cons_succ, List.getElem_cons_zero, Act.put, List.setIfInBounds_toArray, List.set_cons_zero, List.set_cons_succ])
                    refine wpAnyH_take (i := 3) (oi := _) (v := undef) rfl (by kernel_rfl) (by kernel_rfl) (by kernel_rfl) (fun _ _ _ h => h) (Or.inr ⟨by rfl, rfl⟩) (by assumption) ?_
                    (try simp only [List.getElem_toArray, List.getElem_cons_succ, List.getElem_cons_zero, Act.put, List.setIfInBounds_toArray, List.set_cons_zero, List.set_cons_succ])
                    refine wpAnyH_take (i := 4) (oi := _) (v := undef) rfl (by kernel_rfl) (by kernel_rfl) (by kernel_rfl) (fun _ _ _ h => h) (Or.inr ⟨by rfl, rfl⟩) (by assumption) ?_
                    (try simp only [List.getElem_toArray, List.getElem_cons_succ, List.getElem_cons_zero, Act.put, List.setIfInBounds_toArray, List.set_cons_zero, List.set_cons_succ])
                    refine wpAnyH_take (i := 5) (oi := _) (v := undef) rfl (by kernel_rfl) (by kernel_rfl) (by kernel_rfl) (fun _ _ _ h => h) (Or.inr ⟨by rfl, rfl⟩) (by assumption) ?_
                    (try simp only [List.getElem_toArray, List.getElem_cons_succ, List.getElem_cons_zero, Act.put, List.setIfInBounds_toArray, List.set_cons_zero, List.set_cons_succ])
                    refine wpAnyH_take (i := 6) (oi := _) (v := undef) rfl (by kernel_rfl) (by kernel_rfl) (by kernel_rfl) (fun _ _ _ h => h) (Or.inr ⟨by rfl, rfl⟩) (by assumption) ?_
                    (try simp only [List.getElem_toArray, List.getElem_cons_succ, List.getElem_cons_zero, Act.put, List.setIfInBounds_toArray, List.set_cons_zero, List.set_cons_succ])
                    refine wpAnyH_take (i := 7) (oi := _) (v := undef) rfl (by kernel_rfl) (by kernel_rfl) (by kernel_rfl) (fun _ _ _ h => h) (Or.inr ⟨by rfl, rfl⟩) (by assumption) ?_
                    (try simp only [List.getElem_toArray, List.getElem_cons_succ, List.getElem_cons_zero, Act.put, List.setIfInBounds_toArray, List.set_cons_zero, List.set_cons_succ])
                    refine wpAnyH_take (i := 8) (oi := _) (v := undef) rfl (by kernel_rfl) (by kernel_rfl) (by kernel_rfl) (fun _ _ _ h => h) (Or.inr ⟨by rfl, rfl⟩) (by assumption) ?_
                    (try simp only [List.getElem_toArray, List.getElem_cons_succ, List.getElem_cons_zero, Act.put, List.setIfInBounds_toArray, List.set_cons_zero, List.set_cons_succ])
                    refine wpAnyH_take (i := 9) (oi := _) (v := undef) rfl (by kernel_rfl) (by kernel_rfl) (by kernel_rfl) (fun _ _ _ h => h) (Or.inr ⟨by rfl, rfl⟩) (by assumption) ?_
                    (try simp only [List.getElem_toArray, List.getElem_cons_succ, List.getElem_cons_zero, Act.put, List.setIfInBounds_toArray, List.set_cons_zero, List.set_cons_succ])
                    refine wpAnyH_take (i := 10) (oi := _) (v := undef) rfl (by kernel_rfl) (by kernel_rfl) (by kernel_rfl) (fun _ _ _ h => h) (Or.inr ⟨by rfl, rfl⟩) (by assumption) ?_
                    (try simp only [List.getElem_toArray, List.getElem_cons_succ, List.getElem_cons_zero, Act.put, List.setIfInBounds_toArray, List.set_cons_zero, List.set_cons_succ])
                    refine wpAnyH_take (i := 11) (oi := _) (v := undef) rfl (by kernel_rfl) (by kernel_rfl) (by kernel_rfl) (fun _ _ _ h => h) (Or.inr ⟨by rfl, rfl⟩) (by assumption) ?_
                    (try simp only [List.getElem_toArray, List.getElem_cons_succ, List.getElem_cons_zero, Act.put, List.setIfInBounds_toArray, List.set_cons_zero, List.set_cons_succ])
                    refine wpAnyH_take (i := 12) (oi := _) (v := undef) rfl (by kernel_rfl) (by kernel_rfl) (by kernel_rfl) (fun _ _ _ h => h) (Or.inr ⟨by rfl, rfl⟩) (by assumption) ?_
                    (try simp only [List.getElem_toArray, List.getElem_cons_succ, List.getElem_cons_zero, Act.put, List.setIfInBounds_toArray, List.set_cons_zero, List.set_cons_succ])
                    refine wpAnyH_take (i := 13) (oi := _) (v := undef) rfl (by kernel_rfl) (by kernel_rfl) (by kernel_rfl) (fun _ _ _ h => h) (Or.inr ⟨by rfl, rfl⟩) (by assumption) ?_
                    (try simp only [List.getElem_toArray, List.getElem_cons_succ, List.getElem_cons_zero, Act.put, List.setIfInBounds_toArray, List.set_cons_zero, List.set_cons_succ])
                    refine wpAnyH_take (i := 14) (oi := _) (v := undef) rfl (by kernel_rfl) (by kernel_rfl) (by kernel_rfl) (fun _ _ _ h => h) (Or.inr ⟨by rfl, rfl⟩) (by assumption) ?_
                    (try simp only [List.getElem_toArray, List.getElem_cons_succ, List.getElem_cons_zero, Act.put, List.setIfInBounds_toArray, List.set_cons_zero, List.set_cons_succ])
                    refine wpAnyH_take (i := 15) (oi := _) (v := undef) rfl (by kernel_rfl) (by kernel_rfl) (by kernel_rfl) (fun _ _ _ h => h) (Or.inr ⟨by rfl, rfl⟩) (by assumption) ?_
                    (try simp only [List.getElem_toArray, List.getElem_cons_succ, List.getElem_cons_zero, Act.put, List.setIfInBounds_toArray, List.set_cons_zero, List.set_cons_succ])
                    refine wpAnyH_take (i := 16) (oi := _) (v := undef) rfl (by kernel_rfl) (by kernel_rfl) (by kernel_rfl) (fun _ _ _ h => h) (Or.inr ⟨by rfl, rfl⟩) (by assumption) ?_
                    (try simp only [List.getElem_toArray, List.getElem_cons_succ, List.getElem_cons_zero, Act.put, List.setIfInBounds_toArray, List.set_cons_zero, List.set_cons_succ])
                    refine wpAnyH_take (i := 17) (oi := _) (v := undef) rfl (by kernel_rfl) (by kernel_rfl) (by kernel_rfl) (fun _ _ _ h => h) (Or.inr ⟨by rfl, rfl⟩) (by assumption) ?_
                    (try simp only [List.getElem_toArray, List.getElem_cons_succ, List.getElem_cons_zero, Act.put, List.setIfInBounds_toArray, List.set_cons_zero, List.set_cons_succ])
                    refine wpAnyH_take (i := 18) (oi := _) (v := undef) rfl (by kernel_rfl) (by kernel_rfl) (by kernel_rfl) (fun _ _ _ h => h) (Or.inr ⟨by rfl, rfl⟩) (by assumption) ?_
                    (try simp only [List.getElem_toArray, List.getElem_cons_succ, List.getElem_cons_zero, Act.put, List.setIfInBounds_toArray, List.set_cons_zero, List.set_cons_succ])
                    refine wpAnyH_take (i := 19) (oi := _) (v := undef) rfl (by kernel_rfl) (by kernel_rfl) (by kernel_rfl) (fun _ _ _ h => h) (Or.inr ⟨by rfl, rfl⟩) (by assumption) ?_
                    (try simp only [List.getElem_toArray, List.getElem_cons_succ, List.getElem_cons_zero, Act.put, List.setIfInBounds_toArray, List.set_cons_zero, List.set_cons_succ])
                    refine wpAnyH_take (i := 20) (oi := _) (v := undef) rfl (by kernel_rfl) (by kernel_rfl) (by kernel_rfl) (fun _ _ _ h => h) (Or.inr ⟨by rfl, rfl⟩) (by assumption) ?_
                    (try simp only [List.getElem_toArray, List.getElem_cons_succ, List.getElem_cons_zero, Act.put, List.setIfInBounds_toArray, List.set_cons_zero, List.set_cons_succ])
                    refine wpAnyH_take (i := 21) (oi := _) (v := undef) rfl (by kernel_rfl) (by kernel_rfl) (by kernel_rfl) (fun _ _ _ h => h) (Or.inr ⟨by rfl, rfl⟩) (by assumption) ?_
                    (try simp only [List.getElem_toArray, List.getElem_cons_succ, List.getElem_cons_zero, Act.put, List.setIfInBounds_toArray, List.set_cons_zero, List.set_cons_succ])
                    refine wpAnyH_take (i := 22) (oi := _) (v := undef) rfl (by kernel_rfl) (by kernel_rfl) (by kernel_rfl) (fun _ _ _ h => h) (Or.inr ⟨by rfl, rfl⟩) (by assumption) ?_
                    (try simp only [List.getElem_toArray, List.getElem_cons_succ, List.getElem_cons_zero, Act.put, List.setIfInBounds_toArray, List.set_cons_zero, List.set_cons_succ])
                    refine wpAnyH_take (i := 23) (oi := _) (v := ?_) rfl (by kernel_rfl) (by kernel_rfl) (by kernel_rfl) (fun _ _ _ h => h) (Or.inl ⟨by rfl, ?_⟩) (by assumption) ?_
                    rotate_left
                    · (intro w hSw; (try dsimp only at hSw); go_simp; (try with_reducible rfl))
                    (try simp only [List.getElem_toArray, List.getElem_cons_succ, List.getElem_cons_zero, Act.put, List.setIfInBounds_toArray, List.set_cons_zero, List.set_cons_succ])
                    refine wpAnyH_done (by kernel_rfl) ?_ _
                    (try go_simp)
                    have HE : Hid _ := hHeld.2.out
                    go_wp2_with fail
                    go_roundg (m - (j2 + 1))
                    case measure => omega
                    case rel => exact ⟨j2 + 1, rfl, by omega, by rw [HX.out.2.2, Nat.max_eq_left (by omega)], by go_num, bel5 HE.out HX.out.2.1⟩
              · obtain rfl : j2 = m := by omega
                have p1 : ¬ (j2 : Int) < (j2 : Int) := by omega
                obtain ⟨D, hD⟩ : ∃ D, D = Sy.degTo (Sy.nf es) j2 := ⟨_, rfl⟩
                rw [← hD]
                have HT3 : Hid (PlT w wr2 w3.heap.size g bs bb cs cb j2 k s es ao L cap wa.heap.size aa P ca o1 o2 us1 us2 ∧ D = Sy.degTo (Sy.nf es) j2) := ⟨hT2, hD⟩
                clear hT2 hbr hD
                by_cases hst : 0 ≤ i ∧ i < (j2 : Int)
                · obtain ⟨st, rfl⟩ : ∃ st : Nat, i = (st : Int) := ⟨i.toNat, by omega⟩
                  have hsm : st < j2 := by omega
                  obtain ⟨r1, c1, hu1, hh1⟩ := HT3.out.1.ro.row st hsm
                  obtain ⟨r2, c2, hu2, hh2⟩ := HT3.out.1.ri.row st hsm
                  have y1 := HT3.out.1.ro.cell _ _ hu1
                  have y2 := HT3.out.1.ri.cell _ _ hu2
                  have hz1 := steps_big1 HT3.out.1.gr (st : Int)
                  have hz2 := steps_big2 HT3.out.1.gr (st : Int)
                  obtain ⟨N1, hN1⟩ : ∃ N1, N1 = (Sy.steps (Sy.nf es) (st : Int)).length := ⟨_, rfl⟩
                  obtain ⟨N2, hN2⟩ : ∃ N2, N2 = (Sy.steps (Sy.nf (es.map Sy.turn)) (st : Int)).length := ⟨_, rfl⟩
                  rw [← hN1] at hh1 y1
                  rw [← hN2] at hh2 y2
                  have HX : Hid (BSteps.Has wr2 (.slice r1 N1 c1) (Sy.steps (Sy.nf es) (st : Int)) ∧ BSteps.Has wr2 (.slice r2 N2 c2) (Sy.steps (Sy.nf (es.map Sy.turn)) (st : Int)) ∧ (Sy.steps (Sy.nf es) (st : Int)).length ≤ 100000 ∧ (Sy.steps (Sy.nf (es.map Sy.turn)) (st : Int)).length ≤ 100000 ∧ Sy.rowOf j2 (Sy.nf es) (st : Int) = Sy.steps (Sy.nf es) st ∧ Sy.rowOf j2 (Sy.nf ((Sy.nf es).map Sy.turn)) (st : Int) = Sy.steps (Sy.nf (es.map Sy.turn)) st) := ⟨hh1, hh2, hz1, hz2, Sy.rowOf_at _ hsm, Sy.rowOf_turn es hsm⟩
                  have p2 : (0 : Int) ≤ (st : Int) := by omega
                  have p3 : (st : Int) < (j2 : Int) := by omega
                  clear hh1 hh2 hz1 hz2 hN1 hN2 hu1 hu2 hst
                  go_upto_region 27 with fail
                  refine wp_region_held_drew (S := (fun w' => (w'.cell? ⟨o1, st, none⟩ = some (.slice r1 N1 c1) ∧ w'.cell? ⟨o2, st, none⟩ = some (.slice r2 N2 c2)) ∧ Hid (Below wr2.heap.size wr2 w'))) (by kernel_rfl) ?_ (fun hHeld => ?_)
                  · exact ⟨⟨y1, y2⟩, ((Below.refl _ _).drew : Below wr2.heap.size wr2 wr2.drew)⟩
                  refine wpAnyH_take (i := 0) (oi := _) (v := ?_) rfl (by kernel_rfl) (by kernel_rfl) (by kernel_rfl) (fun _ _ _ h => h) (Or.inl ⟨by rfl, ?_⟩) (by assumption) ?_
                  rotate_left
                  · (intro w hSw; (try dsimp only at hSw); go_simp; (try with_reducible rfl))
                  (try simp only [List.getElem_toArray, List.getElem_cons_succ, List.getElem_cons_zero, Act.put, List.setIfInBounds_toArray, List.set_cons_zero, List.set_cons_succ])
                  refine wpAnyH_take (i := 1) (oi := _) (v := ?_) rfl (by kernel_rfl) (by kernel_rfl) (by kernel_rfl) (fun _ _ _ h => h) (Or.inl ⟨by rfl, ?_⟩) (by assumption) ?_
                  rotate_left
                  · (intro w hSw; (try dsimp only at hSw); go_simp; (try with_reducible rfl))
                  (try simp only [List.getElem_toArray, List.getElem_cons_succ, List.getElem_cons_zero, Act.put, List.setIfInBounds_toArray, List.set_cons_zero, List.set_cons_succ])
                  refine wpAnyH_take (i := 2) (oi := _) (v := ?_) rfl (by kernel_rfl) (by kernel_rfl) (by kernel_rfl) (fun _ _ _ h => h) (Or.inl ⟨by rfl, ?_⟩) (by assumption) ?_
                  rotate_left
                  · (intro w hSw; (try dsimp only at hSw); go_simp; (try with_reducible rfl))
                  (try simp only [List.getElem_toArray, List.getElem_cons_succ, List.getElem_cons_zero, Act.put, List.setIfInBounds_toArray, List.set_cons_zero, List.set_cons_succ])
                  refine wpAnyH_take (i := 3) (oi := _) (v := ?_) rfl (by kernel_rfl) (by kernel_rfl) (by kernel_rfl) (fun _ _ _ h => h) (Or.inl ⟨by rfl, ?_⟩) (by assumption) ?_
                  rotate_left
                  · (intro w hSw; (try dsimp only at hSw); go_simp; (try with_reducible rfl))
                  (try simp only [List.getElem_toArray, List.getElem_cons_succ, List.getElem_cons_zero, Act.put, List.setIfInBounds_toArray, List.set_cons_zero, List.set_cons_succ])
                  refine wpAnyH_take (i := 4) (oi := _) (v := ?_) rfl (by kernel_rfl) (by kernel_rfl) (by kernel_rfl) (fun _ _ _ h => h) (Or.inl ⟨by rfl, ?_⟩) (by assumption) ?_
                  rotate_left
                  · (intro w hSw; (try dsimp only at hSw); go_simp; (try with_reducible rfl))
                  (try simp only [List.getElem_toArray, List.getElem_cons_succ, List.getElem_cons_zero, Act.put, List.setIfInBounds_toArray, List.set_cons_zero, List.set_cons_succ])
                  refine wpAnyH_take (i := 6) (oi := _) (v := ?_) rfl (by kernel_rfl) (by kernel_rfl) (by kernel_rfl) (fun _ _ _ h => h) (Or.inl ⟨by rfl, ?_⟩) (by assumption) ?_
                  rotate_left
                  · (intro w hSw; (try dsimp only at hSw); go_simp; (try with_reducible rfl))
                  (try simp only [List.getElem_toArray, List.getElem_cons_succ, List.getElem_cons_zero, Act.put, List.setIfInBounds_toArray, List.set_cons_zero, List.set_cons_succ])
                  refine wpAnyH_take (i := 7) (oi := _) (v := ?_) rfl (by kernel_rfl) (by kernel_rfl) (by kernel_rfl) (fun _ _ _ h => h) (Or.inl ⟨by rfl, ?_⟩) (by assumption) ?_
                  rotate_left
                  · (intro w hSw; (try dsimp only at hSw); go_simp; (try with_reducible rfl))
                  (try simp only [List.getElem_toArray, List.getElem_cons_succ, List.getElem_cons_zero, Act.put, List.setIfInBounds_toArray, List.set_cons_zero, List.set_cons_succ])
                  refine wpAnyH_take (i := 8) (oi := _) (v := ?_) rfl (by kernel_rfl) (by kernel_rfl) (by kernel_rfl) (fun _ _ _ h => h) (Or.inl ⟨by rfl, ?_⟩) (by assumption) ?_
                  rotate_left
                  · (intro w hSw; (try dsimp only at hSw); go_simp; (try with_reducible rfl))
                  (try simp only [List.getElem_toArray, List.getElem_cons_succ, List.getElem_cons_zero, Act.put, List.setIfInBounds_toArray, List.set_cons_zero, List.set_cons_succ])
                  refine wpAnyH_take (i := 9) (oi := _) (v := ?_) rfl (by kernel_rfl) (by kernel_rfl) (by kernel_rfl) (fun _ _ _ h => h) (Or.inl ⟨by rfl, ?_⟩) (by assumption) ?_
                  rotate_left
                  · (intro w hSw; (try dsimp only at hSw); go_simp; (try with_reducible rfl))
                  (try simp only [List.getElem_toArray, List.getElem_cons_succ, List.getElem_cons_zero, Act.put, List.setIfInBounds_toArray, List.set_cons_zero, List.set_cons_succ])
                  refine wpAnyH_take (i := 10) (oi := _) (v := ?_) rfl (by kernel_rfl) (by kernel_rfl) (by kernel_rfl) (fun _ _ _ h => h) (Or.inl ⟨by rfl, ?_⟩) (by assumption) ?_
                  rotate_left
                  · (intro w hSw; (try dsimp only at hSw); go_simp; (try with_reducible rfl))
                  (try simp only [List.getElem_toArray, List.getElem_cons_succ, List.getElem_cons_zero, Act.put, List.setIfInBounds_toArray, List.set_cons_zero, List.set_cons_succ])
                  refine wpAnyH_take (i := 12) (oi := _) (v := ?_) rfl (by kernel_rfl) (by kernel_rfl) (by kernel_rfl) (fun _ _ _ h => h) (Or.inl ⟨by rfl, ?_⟩) (by assumption) ?_
                  rotate_left
                  · (intro w hSw; (try dsimp only at hSw); go_simp; (try with_reducible rfl))
                  (try simp only [List.getElem_toArray, List.getElem_cons_succ, List.getElem_cons_zero, Act.put, List.setIfInBounds_toArray, List.set_cons_zero, List.set_cons_succ])
                  refine wpAnyH_take (i := 13) (oi := _) (v := ?_) rfl (by kernel_rfl) (by kernel_rfl) (by kernel_rfl) (fun _ _ _ h => h) (Or.inl ⟨by rfl, ?_⟩) (by assumption) ?_
                  rotate_left
                  · (intro w hSw; (try dsimp only at hSw); go_simp; (try with_reducible rfl))
                  (try simp only [List.getElem_toArray, List.getElem_cons_succ, List.getElem_cons_zero, Act.put, List.setIfInBounds_toArray, List.set_cons_zero, List.set_cons_succ])
                  refine wpAnyH_take (i := 14) (oi := _) (v := ?_) rfl (by kernel_rfl) (by kernel_rfl) (by kernel_rfl) (fun _ _ _ h => h) (Or.inl ⟨by rfl, ?_⟩) (by assumption) ?_
                  rotate_left
                  · (intro w hSw; (try dsimp only at hSw); go_simp; (try with_reducible rfl))
                  (try simp only [List.getElem_toArray, List.getElem_cons_succ, List.getElem_cons_zero, Act.put, List.setIfInBounds_toArray, List.set_cons_zero, List.set_cons_succ])
                  refine wpAnyH_take (i := 15) (oi := _) (v := ?_) rfl (by kernel_rfl) (by kernel_rfl) (by kernel_rfl) (fun _ _ _ h => h) (Or.inl ⟨by rfl, ?_⟩) (by assumption) ?_
                  rotate_left
                  · (intro w hSw; (try dsimp only at hSw); go_simp; (try with_reducible rfl))
                  (try simp only [List.getElem_toArray, List.getElem_cons_succ, List.getElem_cons_zero, Act.put, List.setIfInBounds_toArray, List.set_cons_zero, List.set_cons_succ])
                  refine wpAnyH_take (i := 16) (oi := _) (v := ?_) rfl (by kernel_rfl) (by kernel_rfl) (by kernel_rfl) (fun _ _ _ h => h) (Or.inl ⟨by rfl, ?_⟩) (by assumption) ?_
                  rotate_left
                  · (intro w hSw; (try dsimp only at hSw); go_simp; (try with_reducible rfl))
                  (try simp only [List.getElem_toArray, List.getElem_cons_succ, List.getElem_cons_zero, Act.put, List.setIfInBounds_toArray, List.set_cons_zero, List.set_cons_succ])
                  refine wpAnyH_take (i := 17) (oi := _) (v := ?_) rfl (by kernel_rfl) (by kernel_rfl) (by kernel_rfl) (fun _ _ _ h => h) (Or.inl ⟨by rfl, ?_⟩) (by assumption) ?_
                  rotate_left
                  · (intro w hSw; (try dsimp only at hSw); go_simp; (try with_reducible rfl))
                  (try simp only [List.getElem_toArray, List.getElem_cons_succ, List.getElem_cons_zero, Act.put, List.setIfInBounds_toArray, List.set_cons_zero, List.set_cons_succ])
                  refine wpAnyH_take (i := 18) (oi := _) (v := ?_) rfl (by kernel_rfl) (by kernel_rfl) (by kernel_rfl) (fun _ _ _ h => h) (Or.inl ⟨by rfl, ?_⟩) (by assumption) ?_
                  rotate_left
                  · (intro w hSw; (try dsimp only at hSw); go_simp; (try with_reducible rfl))
                  (try simp only [List.getElem_toArray, List.getElem_cons_succ, List.getElem_cons_zero, Act.put, List.setIfInBounds_toArray, List.set_cons_zero, List.set_cons_succ])
                  refine wpAnyH_take (i := 19) (oi := _) (v := ?_) rfl (by kernel_rfl) (by kernel_rfl) (by kernel_rfl) (fun _ _ _ h => h) (Or.inl ⟨by rfl, ?_⟩) (by assumption) ?_
                  rotate_left
                  · (intro w hSw; (try dsimp only at hSw); go_simp; (try with_reducible rfl))
                  (try simp only [List.getElem_toArray, List.getElem_cons_succ, List.getElem_cons_zero, Act.put, List.setIfInBounds_toArray, List.set_cons_zero, List.set_cons_succ])
                  refine wpAnyH_ready (rs := [5]) (by kernel_rfl) (by simp) ?_
                  refine AllReadyH.cons (o := _) rfl (fun K hK => ?_) ?_
                  · (go_simp; go_at_call 17; refine Calls.mono (ends_any _ _ b _ (HX.out.1.below hHeld.2.out) HX.out.2.2.1) ?_; rintro r w31 ⟨u31, rfl, hO31, hb31⟩; have hq31 := hO31.has; clear hO31; obtain ⟨a31, k31, hu31⟩ := hasI_shape hq31; obtain ⟨n31, hn31⟩ : ∃ n31, n31 = (Sy.ends (Sy.steps (Sy.nf es) (st : Int)) b).length := ⟨_, rfl⟩; rw [← hn31] at hu31; subst hu31; clear hn31; have HO31 : Hid (HasI w31 _ (Sy.ends (Sy.steps (Sy.nf es) (st : Int)) b)) := hq31; clear hq31)
                    (try go_wp2_with fail)
                    refine hK.out _ _ ?_ (fun hHeld => ?_)
                    · exact ⟨⟨cell_up hHeld.1.1 hb31, cell_up hHeld.1.2 hb31⟩, bel5 hb31 hHeld.2.out⟩
                    clear hK K
                    (try simp only [List.getElem_toArray, List.getElem_cons_succ, List.getElem_cons_zero, Act.put, List.setIfInBounds_toArray, List.set_cons_zero, List.set_cons_succ])
                    clear hb31
                    refine wpAnyH_ready (rs := [11]) (by kernel_rfl) (by simp) ?_
                    refine AllReadyH.cons (o := _) rfl (fun K hK => ?_) ?_
                    · (go_simp; go_at_call 17; refine Calls.mono (ends_any _ _ b _ (HX.out.2.1.below hHeld.2.out) HX.out.2.2.2.1) ?_; rintro r w32 ⟨u32, rfl, hO32, hb32⟩; have hq32 := hO32.has; clear hO32; obtain ⟨a32, k32, hu32⟩ := hasI_shape hq32; obtain ⟨n32, hn32⟩ : ∃ n32, n32 = (Sy.ends (Sy.steps (Sy.nf (es.map Sy.turn)) (st : Int)) b).length := ⟨_, rfl⟩; rw [← hn32] at hu32; subst hu32; clear hn32; have HO32 : Hid (HasI w32 _ (Sy.ends (Sy.steps (Sy.nf (es.map Sy.turn)) (st : Int)) b) ∧ Below w31.heap.size w31 w32) := ⟨hq32, hb32⟩; clear hq32)
                      (try go_wp2_with fail)
                      refine hK.out _ _ ?_ (fun hHeld => ?_)
                      · exact ⟨⟨cell_up hHeld.1.1 hb32, cell_up hHeld.1.2 hb32⟩, bel5 hb32 hHeld.2.out⟩
                      clear hK K
                      (try simp only [List.getElem_toArray, List.getElem_cons_succ, List.getElem_cons_zero, Act.put, List.setIfInBounds_toArray, List.set_cons_zero, List.set_cons_succ])
                      clear hb32
                      refine wpAnyH_take (i := 20) (oi := _) (v := ?_) rfl (by kernel_rfl) (by kernel_rfl) (by kernel_rfl) (fun _ _ _ h => h) (Or.inl ⟨by rfl, ?_⟩) (by assumption) ?_
                      rotate_left
                      · (intro w hSw; (try dsimp only at hSw); go_simp; (try with_reducible rfl))
                      (try simp only [List.getElem_toArray, List.getElem_cons_succ, List.getElem_cons_zero, Act.put, List.setIfInBounds_toArray, List.set_cons_zero, List.set_cons_succ])
                      refine wpAnyH_take (i := 21) (oi := _) (v := ?_) rfl (by kernel_rfl) (by kernel_rfl) (by kernel_rfl) (fun _ _ _ h => h) (Or.inl ⟨by rfl, ?_⟩) (by assumption) ?_
                      rotate_left
                      · (intro w hSw; (try dsimp only at hSw); go_simp; (try with_reducible rfl))
                      (try simp only [List.getElem_toArray, List.getElem_cons_succ, List.getElem_cons_zero, Act.put, List.setIfInBounds_toArray, List.set_cons_zero, List.set_cons_succ])
                      refine wpAnyH_take (i := 22) (oi := _) (v := ?_) rfl (by kernel_rfl) (by kernel_rfl) (by kernel_rfl) (fun _ _ _ h => h) (Or.inl ⟨by rfl, ?_⟩) (by assumption) ?_
                      rotate_left
                      · (intro w hSw; (try dsimp only at hSw); go_simp; (try with_reducible rfl))
                      (try simp only [List.getElem_toArray, List.getElem_cons_succ, List.getElem_cons_zero, Act.put, List.setIfInBounds_toArray, List.set_cons_zero, List.set_cons_succ])
                      refine wpAnyH_take (i := 23) (oi := _) (v := ?_) rfl (by kernel_rfl) (by kernel_rfl) (by kernel_rfl) (fun _ _ _ h => h) (Or.inl ⟨by rfl, ?_⟩) (by assumption) ?_
                      rotate_left
                      · (intro w hSw; (try dsimp only at hSw); go_simp; (try with_reducible rfl))
                      (try simp only [List.getElem_toArray, List.getElem_cons_succ, List.getElem_cons_zero, Act.put, List.setIfInBounds_toArray, List.set_cons_zero, List.set_cons_succ])
                      refine wpAnyH_done (by kernel_rfl) ?_ _
                      (try go_simp)
                      have HE : Hid (PlT w w32 w3.heap.size g bs bb cs cb j2 k s es ao L cap wa.heap.size aa P ca o1 o2 us1 us2 ∧ (HasI w32 (.slice a31 n31 k31) (Sy.ends (Sy.rowOf j2 (Sy.nf es) (st : Int)) b) ∧ HasI w32 (.slice a32 n32 k32) (Sy.ends (Sy.rowOf j2 (Sy.nf ((Sy.nf es).map Sy.turn)) (st : Int)) b) ∧ BSteps.Has w32 (.slice r1 N1 c1) (Sy.rowOf j2 (Sy.nf es) (st : Int)) ∧ BSteps.Has w32 (.slice r2 N2 c2) (Sy.rowOf j2 (Sy.nf ((Sy.nf es).map Sy.turn)) (st : Int))) ∧ D = Sy.degTo (Sy.nf es) j2) := by
                        have h9 := hHeld.2.out
                        have h8 := HX.out
                        rw [h8.2.2.2.2.1, h8.2.2.2.2.2]
                        exact ⟨HT3.out.1.below h9, ⟨HO31.out.below HO32.out.2, HO32.out.1, h8.1.below h9, h8.2.1.below h9⟩, HT3.out.2⟩
                      obtain ⟨si, hsi⟩ : ∃ si : Int, si = (st : Int) := ⟨_, rfl⟩
                      rw [← hsi] at HE ⊢
                      clear hHeld HO31 HO32 HX HT3 y1 y2 x0 x1 x2 x3 p2 p3 hsi hsm
                      have hRe := refReach_of HE.out.1 HZ0.out.1 HZ0.out.2.1 HZ0.out.2.2.2
                      unfold sysV at hRe
                      obtain ⟨x0, x1, x2, x3⟩ := four_cells HE.out.1.sb
                      have HR : Hid _ := hRe
                      clear hRe
                      go_upto_region 29 with fail
                      go_wp2_with fail
                      refine Calls.mono HR.out ?_
                      rintro r wf ⟨gq, rs, rfl, hAq, hrl, hrs⟩
                      have HR2 : Hid (Arr 4 w32 wf gq (bC rs) ∧ rs.length = j2 ∧ ∀ p : Nat, p < j2 → (rs[p]? = some true ↔ Sy.Rea es s p)) := ⟨hAq, hrl, hrs⟩
                      have HE2 : Hid (PlT w wf w3.heap.size g bs bb cs cb j2 k s es ao L cap wa.heap.size aa P ca o1 o2 us1 us2) := HE.out.1.below hAq.bl
                      clear hAq hrl hrs HR x0 x1 x2 x3
                      obtain ⟨x0, x1, x2, x3⟩ := four_cells HE2.out.sb
                      go_wp2_with fail
                      go_loopg [21, 23] j2 (fun q uv iv wr => ∃ p : Nat, q = j2 - p ∧ p ≤ j2 ∧ iv = .int .i64 p ∧ OwnI wr wf.heap.size uv (Sy.marked (rs.take p)) ∧ Below wf.heap.size wf wr)
                      case atStart => exact ⟨0, rfl, Nat.zero_le _, rfl, World.ownsRow_nil _ _ _ _, Below.refl _ _⟩
                      case round =>
                        obtain ⟨p, rfl, hp, rfl, hO, hb⟩ := hrel
                        obtain ⟨wr3, rfl⟩ : ∃ wr3, wr3 = wr := ⟨_, rfl⟩
                        have z0 := cell_up x0 hb
                        obtain ⟨au, cu, hu⟩ := row_shape hO
                        obtain ⟨N, hN⟩ : ∃ N, N = (Sy.marked (rs.take p)).length := ⟨_, rfl⟩
                        rw [← hN] at hu
                        subst hu
                        by_cases hpm : p < j2
                        · obtain ⟨bt, hbt⟩ : ∃ bt, rs[p]? = some bt := ⟨rs[p]'(by have := HR2.out.2.1; omega), List.getElem?_eq_getElem _⟩
                          have z1 := (HR2.out.1.below hb).cell (bC_at hbt)
                          have hms := Sy.marked_snoc hbt
                          obtain ⟨i0, hi0, hz0, hz1, hz2⟩ := info_parts Tryz.infoI4
                          have hOz : wr3.ownsRow wf.heap.size 3 1 (.slice au N cu) N (iC (Sy.marked (rs.take p))) := by have h1 := hO; unfold OwnI at h1; rw [← hN] at h1; exact h1
                          have hNl : N ≤ 1000 := by have h1 := Sy.marked_len (rs.take p); have h3 := List.count_le_length (a := true) (l := rs.take p); rw [List.length_take] at h3; have h2 := HE2.out.gr.sizes; omega
                          have hml : N + 1 ≤ maxLen := by unfold maxLen; omega
                          have hby : (N + 1) * 8 ≤ 140737488355328 := by omega
                          have hle : wf.heap.size ≤ (wr3.alloc (.cells #[.int .i64 p] 3)).heap.size := by have := hb.size; simp; omega
                          have p0 : (0 : Int) ≤ (p : Int) := by omega
                          have p1 : (p : Int) < (j2 : Int) := by omega
                          have HW : Hid _ := And.intro hOz (And.intro hb (And.intro hms (And.intro hO hN)))
                          clear hO hOz hb hms hbt hN
                          cases bt with
                          | true =>
                            go_wp2_with (at_builtin; refine wpList_append_own_at _ rfl _ _ 44 rfl wf.heap.size 3 i0 (.int .i64 0) 1 8 Tryz.underlying44 hi0 hz0 hz1 hz2 rfl (by decide) (.slice au N cu) N (iC (Sy.marked (rs.take p))) rfl (HW.out.1.alloc _) ⟨wr3.heap.size, 0, none⟩ 1 1 [.int .i64 p] rfl rfl (World.news_of_block (cs := #[.int .i64 p]) (t := 3) (fr := (0, 0)) (heap_alloc_new wr3 _)) (by simp [Value.oneCell']) hml hby hle ?_; intro v5 w5 hO5 hg5 hnil5 hat5; have H5 : Hid _ := And.intro hO5 hg5; clear hO5 hg5 hnil5 hat5)
                            go_roundg (j2 - (p + 1))
                            case measure => omega
                            case rel =>
                              refine ⟨p + 1, rfl, by omega, by go_num, ?_, HW.out.2.1.trans ((grown_alloc H5.out.2).below HW.out.2.1.size fun b hb => (HW.out.1.lt b hb).1)⟩
                              have hx9 := HW.out.2.2.1
                              simp only [if_true] at hx9
                              rw [hx9]
                              unfold OwnI
                              rw [iC_snoc, List.length_append, ← HW.out.2.2.2.2]
                              exact H5.out.1
                          | false =>
                            go_wp2_with fail
                            go_roundg (j2 - (p + 1))
                            case measure => omega
                            case rel => exact ⟨p + 1, rfl, by omega, by go_num, by rw [HW.out.2.2.1]; simpa using HW.out.2.2.2.1, HW.out.2.1⟩
                        · obtain rfl : p = j2 := by omega
                          have p1 : ¬ (p : Int) < (p : Int) := by omega
                          have HE3 : Hid (PlT w wr3 w3.heap.size g bs bb cs cb p k s es ao L cap wa.heap.size aa P ca o1 o2 us1 us2 ∧ HasI wr3 (.slice au N cu) (Sy.marked rs) ∧ Below wf.heap.size wf wr3) := ⟨HE2.out.below hb, by have h1 := hO.has; rwa [List.take_of_length_le (by have := HR2.out.2.1; omega)] at h1, hb⟩
                          have HE4 : Hid (HasI wr3 (.slice a31 n31 k31) (Sy.ends (Sy.rowOf p (Sy.nf es) si) b) ∧ HasI wr3 (.slice a32 n32 k32) (Sy.ends (Sy.rowOf p (Sy.nf ((Sy.nf es).map Sy.turn)) si) b) ∧ BSteps.Has wr3 (.slice r1 N1 c1) (Sy.rowOf p (Sy.nf es) si) ∧ BSteps.Has wr3 (.slice r2 N2 c2) (Sy.rowOf p (Sy.nf ((Sy.nf es).map Sy.turn)) si)) := by
                            have h1 := bel5 hb HR2.out.1.bl
                            exact ⟨HE.out.2.1.1.below h1, HE.out.2.1.2.1.below h1, HE.out.2.1.2.2.1.below h1, HE.out.2.1.2.2.2.below h1⟩
                          have HM : Hid (rs.length = p ∧ (∀ q : Nat, q < p → (rs[q]? = some true ↔ Sy.Rea es s q)) ∧ D = Sy.degTo (Sy.nf es) p) := ⟨HR2.out.2.1, HR2.out.2.2, HE.out.2.2⟩
                          clear hO hb hN HE HR2 HE2 x0 x1 x2 x3 hpm hp
                          have HB : Hid (Below wr3.heap.size wr3 wr3) := Below.refl _ _
                          go_wp2_with fail
                          refine Calls.mono (by_any si b _ (HE3.out.1.gr.below HB.out)) ?_
                          rintro r w41 ⟨u41, rfl, hO41, hb41⟩
                          have hq41 := hO41.has
                          obtain ⟨a41, k41, hs41⟩ := hasI_shape hq41
                          have HQ41 : Hid _ := And.intro trivial hq41
                          have HB : Hid (Below wr3.heap.size wr3 w41) := bel5 hb41 HB.out
                          generalize hgl41 : List.length _ = L41 at hs41
                          subst hs41
                          clear hO41 hb41 hq41 hgl41
                          go_wp2_with fail
                          refine Calls.mono (sameInts_any _ _ _ _ (row_bigI HE3.out.1.gr _ _) HQ41.out.2 (HE4.out.1.below HB.out)) ?_
                          rintro r w42 ⟨rfl, hb42⟩
                          have HB : Hid (Below wr3.heap.size wr3 w42) := bel5 hb42 HB.out
                          clear hb42
                          go_wp2_with fail
                          refine Calls.mono (from_any si b _ (HE3.out.1.gr.below HB.out)) ?_
                          rintro r w43 ⟨u43, rfl, hO43, hb43⟩
                          have hq43 := hO43.has
                          obtain ⟨a43, k43, hs43⟩ := hasI_shape hq43
                          have HQ43 : Hid _ := And.intro trivial hq43
                          have HB : Hid (Below wr3.heap.size wr3 w43) := bel5 hb43 HB.out
                          generalize hgl43 : List.length _ = L43 at hs43
                          subst hs43
                          clear hO43 hb43 hq43 hgl43
                          go_wp2_with fail
                          refine Calls.mono (sameInts_any _ _ _ _ (row_bigI2 HE3.out.1.gr _ _) HQ43.out.2 (HE4.out.2.1.below HB.out)) ?_
                          rintro r w44 ⟨rfl, hb44⟩
                          have HB : Hid (Below wr3.heap.size wr3 w44) := bel5 hb44 HB.out
                          clear hb44
                          go_wp2_with fail
                          refine Calls.mono (out_any si _ (HE3.out.1.gr.below HB.out)) ?_
                          rintro r w45 ⟨u45, rfl, hO45, hb45⟩
                          have hq45 := hO45.has
                          obtain ⟨a45, k45, hs45⟩ := has_shape hq45
                          have HQ45 : Hid _ := And.intro trivial hq45
                          have HB : Hid (Below wr3.heap.size wr3 w45) := bel5 hb45 HB.out
                          generalize hgl45 : List.length _ = L45 at hs45
                          subst hs45
                          clear hO45 hb45 hq45 hgl45
                          go_wp2_with fail
                          refine Calls.mono (BSteps.same_b _ _ _ _ (row_bigS HE3.out.1.gr _) HQ45.out.2 (HE4.out.2.2.1.below HB.out)) ?_
                          rintro r w46 ⟨rfl, hb46⟩
                          have HB : Hid (Below wr3.heap.size wr3 w46) := bel5 hb46 HB.out
                          clear hb46
                          go_wp2_with fail
                          refine Calls.mono (in_any si _ (HE3.out.1.gr.below HB.out)) ?_
                          rintro r w47 ⟨u47, rfl, hO47, hb47⟩
                          have hq47 := hO47.has
                          obtain ⟨a47, k47, hs47⟩ := has_shape hq47
                          have HQ47 : Hid _ := And.intro trivial hq47
                          have HB : Hid (Below wr3.heap.size wr3 w47) := bel5 hb47 HB.out
                          generalize hgl47 : List.length _ = L47 at hs47
                          subst hs47
                          clear hO47 hb47 hq47 hgl47
                          go_wp2_with fail
                          refine Calls.mono (BSteps.same_b _ _ _ _ (row_bigS2 HE3.out.1.gr _) HQ47.out.2 (HE4.out.2.2.2.below HB.out)) ?_
                          rintro r w48 ⟨rfl, hb48⟩
                          have HB : Hid (Below wr3.heap.size wr3 w48) := bel5 hb48 HB.out
                          clear hb48
                          have hT5 := HE3.out.1.below HB.out
                          obtain ⟨x0, x1, x2, x3⟩ := four_cells hT5.sb
                          obtain ⟨v0, v1, v2, v3⟩ := four_cells hT5.tb
                          have HT5 : Hid (PlT w w48 w3.heap.size g bs bb cs cb p k s es ao L cap wa.heap.size aa P ca o1 o2 us1 us2) := hT5
                          clear hT5
                          go_upto_region 37 with fail
                          refine wp_region_held_drew (S := (fun w' => (w'.cell? ⟨w.heap.size, 0, none⟩ = some (.int .i64 p) ∧ w'.cell? ⟨w.heap.size, 1, none⟩ = some (.int .i64 k) ∧ w'.cell? ⟨w.heap.size, 2, none⟩ = some (.int .i64 s) ∧ w'.cell? ⟨wa.heap.size, 3, none⟩ = some (.slice aa P ca)) ∧ Hid (Below w48.heap.size w48 w'))) (by kernel_rfl) ?_ (fun hHeld => ?_)
                          · exact ⟨⟨x0, x1, x2, v3⟩, ((Below.refl _ _).drew : Below w48.heap.size w48 w48.drew)⟩
                          refine wpAnyH_ready (rs := [0]) (by kernel_rfl) (by simp) ?_
                          refine AllReadyH.cons (o := _) rfl (fun K hK => ?_) ?_
                          · (go_simp; go_at_call 5; refine Calls.mono (HZ0.out.2.2.1 _ (bel5 hHeld.2.out HT5.out.b)) ?_; rintro r w61 ⟨rfl, hb61⟩)
                            (try go_wp2_with fail)
                            refine hK.out _ _ ?_ (fun hHeld => ?_)
                            · exact rg_up4 hb61 hHeld
                            clear hK K
                            (try simp only [List.getElem_toArray, List.getElem_cons_succ, List.getElem_cons_zero, Act.put, List.setIfInBounds_toArray, List.set_cons_zero, List.set_cons_succ])
                            clear hb61
                            refine wpAnyH_take (i := 1) (oi := _) (v := ?_) rfl (by kernel_rfl) (by kernel_rfl) (by kernel_rfl) (fun _ _ _ h => h) (Or.inl ⟨by rfl, ?_⟩) (by assumption) ?_
                            rotate_left
                            · (intro w hSw; (try dsimp only at hSw); go_simp; (try with_reducible rfl))
                            (try simp only [List.getElem_toArray, List.getElem_cons_succ, List.getElem_cons_zero, Act.put, List.setIfInBounds_toArray, List.set_cons_zero, List.set_cons_succ])
                            refine wpAnyH_take (i := 2) (oi := _) (v := ?_) rfl (by kernel_rfl) (by kernel_rfl) (by kernel_rfl) (fun _ _ _ h => h) (Or.inl ⟨by rfl, ?_⟩) (by assumption) ?_
                            rotate_left
                            · (intro w hSw; (try dsimp only at hSw); go_simp; (try with_reducible rfl))
                            (try simp only [List.getElem_toArray, List.getElem_cons_succ, List.getElem_cons_zero, Act.put, List.setIfInBounds_toArray, List.set_cons_zero, List.set_cons_succ])
                            refine wpAnyH_take (i := 4) (oi := _) (v := ?_) rfl (by kernel_rfl) (by kernel_rfl) (by kernel_rfl) (fun _ _ _ h => h) (Or.inl ⟨by rfl, ?_⟩) (by assumption) ?_
                            rotate_left
                            · (intro w hSw; (try dsimp only at hSw); go_simp; (try with_reducible rfl))
                            (try simp only [List.getElem_toArray, List.getElem_cons_succ, List.getElem_cons_zero, Act.put, List.setIfInBounds_toArray, List.set_cons_zero, List.set_cons_succ])
                            refine wpAnyH_take (i := 5) (oi := _) (v := ?_) rfl (by kernel_rfl) (by kernel_rfl) (by kernel_rfl) (fun _ _ _ h => h) (Or.inl ⟨by rfl, ?_⟩) (by assumption) ?_
                            rotate_left
                            · (intro w hSw; (try dsimp only at hSw); go_simp; (try with_reducible rfl))
                            (try simp only [List.getElem_toArray, List.getElem_cons_succ, List.getElem_cons_zero, Act.put, List.setIfInBounds_toArray, List.set_cons_zero, List.set_cons_succ])
                            refine wpAnyH_ready (rs := [3]) (by kernel_rfl) (by simp) ?_
                            refine AllReadyH.cons (o := _) rfl (fun K hK => ?_) ?_
                            · (go_simp; go_at_call 22; refine Calls.mono (states_any _ (HT5.out.gr.below hHeld.2.out)) ?_; rintro r w62 ⟨rfl, hw62⟩; obtain rfl := hw62.symm; clear hw62)
                              (try go_wp2_with fail)
                              refine hK.out _ _ ?_ (fun hHeld => ?_)
                              · exact hHeld
                              clear hK K
                              (try simp only [List.getElem_toArray, List.getElem_cons_succ, List.getElem_cons_zero, Act.put, List.setIfInBounds_toArray, List.set_cons_zero, List.set_cons_succ])
                              refine wpAnyH_take (i := 6) (oi := _) (v := ?_) rfl (by kernel_rfl) (by kernel_rfl) (by kernel_rfl) (fun _ _ _ h => h) (Or.inl ⟨by rfl, ?_⟩) (by assumption) ?_
                              rotate_left
                              · (intro w hSw; (try dsimp only at hSw); go_simp; (try with_reducible rfl))
                              (try simp only [List.getElem_toArray, List.getElem_cons_succ, List.getElem_cons_zero, Act.put, List.setIfInBounds_toArray, List.set_cons_zero, List.set_cons_succ])
                              refine wpAnyH_take (i := 7) (oi := _) (v := ?_) rfl (by kernel_rfl) (by kernel_rfl) (by kernel_rfl) (fun _ _ _ h => h) (Or.inl ⟨by rfl, ?_⟩) (by assumption) ?_
                              rotate_left
                              · (intro w hSw; (try dsimp only at hSw); go_simp; (try with_reducible rfl))
                              (try simp only [List.getElem_toArray, List.getElem_cons_succ, List.getElem_cons_zero, Act.put, List.setIfInBounds_toArray, List.set_cons_zero, List.set_cons_succ])
                              refine wpAnyH_take (i := 8) (oi := _) (v := ?_) rfl (by kernel_rfl) (by kernel_rfl) (by kernel_rfl) (fun _ _ _ h => h) (Or.inl ⟨by rfl, ?_⟩) (by assumption) ?_
                              rotate_left
                              · (intro w hSw; (try dsimp only at hSw); go_simp; (try with_reducible rfl))
                              (try simp only [List.getElem_toArray, List.getElem_cons_succ, List.getElem_cons_zero, Act.put, List.setIfInBounds_toArray, List.set_cons_zero, List.set_cons_succ])
                              refine wpAnyH_take (i := 9) (oi := _) (v := ?_) rfl (by kernel_rfl) (by kernel_rfl) (by kernel_rfl) (fun _ _ _ h => h) (Or.inl ⟨by rfl, ?_⟩) (by assumption) ?_
                              rotate_left
                              · (intro w hSw; (try dsimp only at hSw); go_simp; (try with_reducible rfl))
                              (try simp only [List.getElem_toArray, List.getElem_cons_succ, List.getElem_cons_zero, Act.put, List.setIfInBounds_toArray, List.set_cons_zero, List.set_cons_succ])
                              refine wpAnyH_take (i := 11) (oi := _) (v := ?_) rfl (by kernel_rfl) (by kernel_rfl) (by kernel_rfl) (fun _ _ _ h => h) (Or.inl ⟨by rfl, ?_⟩) (by assumption) ?_
                              rotate_left
                              · (intro w hSw; (try dsimp only at hSw); go_simp; (try with_reducible rfl))
                              (try simp only [List.getElem_toArray, List.getElem_cons_succ, List.getElem_cons_zero, Act.put, List.setIfInBounds_toArray, List.set_cons_zero, List.set_cons_succ])
                              refine wpAnyH_take (i := 12) (oi := _) (v := ?_) rfl (by kernel_rfl) (by kernel_rfl) (by kernel_rfl) (fun _ _ _ h => h) (Or.inl ⟨by rfl, ?_⟩) (by assumption) ?_
                              rotate_left
                              · (intro w hSw; (try dsimp only at hSw); go_simp; (try with_reducible rfl))
                              (try simp only [List.getElem_toArray, List.getElem_cons_succ, List.getElem_cons_zero, Act.put, List.setIfInBounds_toArray, List.set_cons_zero, List.set_cons_succ])
                              refine wpAnyH_ready (rs := [10]) (by kernel_rfl) (by simp) ?_
                              refine AllReadyH.cons (o := _) rfl (fun K hK => ?_) ?_
                              · (go_simp; go_at_call 23; refine Calls.mono (labels_any _ (HT5.out.gr.below hHeld.2.out)) ?_; rintro r w63 ⟨rfl, hw63⟩; obtain rfl := hw63.symm; clear hw63)
                                (try go_wp2_with fail)
                                refine hK.out _ _ ?_ (fun hHeld => ?_)
                                · exact hHeld
                                clear hK K
                                (try simp only [List.getElem_toArray, List.getElem_cons_succ, List.getElem_cons_zero, Act.put, List.setIfInBounds_toArray, List.set_cons_zero, List.set_cons_succ])
                                refine wpAnyH_take (i := 13) (oi := _) (v := ?_) rfl (by kernel_rfl) (by kernel_rfl) (by kernel_rfl) (fun _ _ _ h => h) (Or.inl ⟨by rfl, ?_⟩) (by assumption) ?_
                                rotate_left
                                · (intro w hSw; (try dsimp only at hSw); go_simp; (try with_reducible rfl))
                                (try simp only [List.getElem_toArray, List.getElem_cons_succ, List.getElem_cons_zero, Act.put, List.setIfInBounds_toArray, List.set_cons_zero, List.set_cons_succ])
                                refine wpAnyH_take (i := 14) (oi := _) (v := ?_) rfl (by kernel_rfl) (by kernel_rfl) (by kernel_rfl) (fun _ _ _ h => h) (Or.inl ⟨by rfl, ?_⟩) (by assumption) ?_
                                rotate_left
                                · (intro w hSw; (try dsimp only at hSw); go_simp; (try with_reducible rfl))
                                (try simp only [List.getElem_toArray, List.getElem_cons_succ, List.getElem_cons_zero, Act.put, List.setIfInBounds_toArray, List.set_cons_zero, List.set_cons_succ])
                                refine wpAnyH_take (i := 15) (oi := _) (v := ?_) rfl (by kernel_rfl) (by kernel_rfl) (by kernel_rfl) (fun _ _ _ h => h) (Or.inl ⟨by rfl, ?_⟩) (by assumption) ?_
                                rotate_left
                                · (intro w hSw; (try dsimp only at hSw); go_simp; (try with_reducible rfl))
                                (try simp only [List.getElem_toArray, List.getElem_cons_succ, List.getElem_cons_zero, Act.put, List.setIfInBounds_toArray, List.set_cons_zero, List.set_cons_succ])
                                refine wpAnyH_take (i := 16) (oi := _) (v := ?_) rfl (by kernel_rfl) (by kernel_rfl) (by kernel_rfl) (fun _ _ _ h => h) (Or.inl ⟨by rfl, ?_⟩) (by assumption) ?_
                                rotate_left
                                · (intro w hSw; (try dsimp only at hSw); go_simp; (try with_reducible rfl))
                                (try simp only [List.getElem_toArray, List.getElem_cons_succ, List.getElem_cons_zero, Act.put, List.setIfInBounds_toArray, List.set_cons_zero, List.set_cons_succ])
                                refine wpAnyH_take (i := 18) (oi := _) (v := ?_) rfl (by kernel_rfl) (by kernel_rfl) (by kernel_rfl) (fun _ _ _ h => h) (Or.inl ⟨by rfl, ?_⟩) (by assumption) ?_
                                rotate_left
                                · (intro w hSw; (try dsimp only at hSw); go_simp; (try with_reducible rfl))
                                (try simp only [List.getElem_toArray, List.getElem_cons_succ, List.getElem_cons_zero, Act.put, List.setIfInBounds_toArray, List.set_cons_zero, List.set_cons_succ])
                                refine wpAnyH_take (i := 19) (oi := _) (v := ?_) rfl (by kernel_rfl) (by kernel_rfl) (by kernel_rfl) (fun _ _ _ h => h) (Or.inl ⟨by rfl, ?_⟩) (by assumption) ?_
                                rotate_left
                                · (intro w hSw; (try dsimp only at hSw); go_simp; (try with_reducible rfl))
                                (try simp only [List.getElem_toArray, List.getElem_cons_succ, List.getElem_cons_zero, Act.put, List.setIfInBounds_toArray, List.set_cons_zero, List.set_cons_succ])
                                refine wpAnyH_ready (rs := [17]) (by kernel_rfl) (by simp) ?_
                                refine AllReadyH.cons (o := _) rfl (fun K hK => ?_) ?_
                                · (go_simp; go_at_call 24; refine Calls.mono (start_any _ (HT5.out.gr.below hHeld.2.out)) ?_; rintro r w64 ⟨rfl, hw64⟩; obtain rfl := hw64.symm; clear hw64)
                                  (try go_wp2_with fail)
                                  refine hK.out _ _ ?_ (fun hHeld => ?_)
                                  · exact hHeld
                                  clear hK K
                                  (try simp only [List.getElem_toArray, List.getElem_cons_succ, List.getElem_cons_zero, Act.put, List.setIfInBounds_toArray, List.set_cons_zero, List.set_cons_succ])
                                  refine wpAnyH_take (i := 20) (oi := _) (v := ?_) rfl (by kernel_rfl) (by kernel_rfl) (by kernel_rfl) (fun _ _ _ h => h) (Or.inl ⟨by rfl, ?_⟩) (by assumption) ?_
                                  rotate_left
                                  · (intro w hSw; (try dsimp only at hSw); go_simp; (try with_reducible rfl))
                                  (try simp only [List.getElem_toArray, List.getElem_cons_succ, List.getElem_cons_zero, Act.put, List.setIfInBounds_toArray, List.set_cons_zero, List.set_cons_succ])
                                  refine wpAnyH_take (i := 21) (oi := _) (v := ?_) rfl (by kernel_rfl) (by kernel_rfl) (by kernel_rfl) (fun _ _ _ h => h) (Or.inl ⟨by rfl, ?_⟩) (by assumption) ?_
                                  rotate_left
                                  · (intro w hSw; (try dsimp only at hSw); go_simp; (try with_reducible rfl))
                                  (try simp only [List.getElem_toArray, List.getElem_cons_succ, List.getElem_cons_zero, Act.put, List.setIfInBounds_toArray, List.set_cons_zero, List.set_cons_succ])
                                  refine wpAnyH_take (i := 22) (oi := _) (v := ?_) rfl (by kernel_rfl) (by kernel_rfl) (by kernel_rfl) (fun _ _ _ h => h) (Or.inl ⟨by rfl, ?_⟩) (by assumption) ?_
                                  rotate_left
                                  · (intro w hSw; (try dsimp only at hSw); go_simp; (try with_reducible rfl))
                                  (try simp only [List.getElem_toArray, List.getElem_cons_succ, List.getElem_cons_zero, Act.put, List.setIfInBounds_toArray, List.set_cons_zero, List.set_cons_succ])
                                  refine wpAnyH_take (i := 23) (oi := _) (v := ?_) rfl (by kernel_rfl) (by kernel_rfl) (by kernel_rfl) (fun _ _ _ h => h) (Or.inl ⟨by rfl, ?_⟩) (by assumption) ?_
                                  rotate_left
                                  · (intro w hSw; (try dsimp only at hSw); go_simp; (try with_reducible rfl))
                                  (try simp only [List.getElem_toArray, List.getElem_cons_succ, List.getElem_cons_zero, Act.put, List.setIfInBounds_toArray, List.set_cons_zero, List.set_cons_succ])
                                  refine wpAnyH_take (i := 25) (oi := _) (v := ?_) rfl (by kernel_rfl) (by kernel_rfl) (by kernel_rfl) (fun _ _ _ h => h) (Or.inl ⟨by rfl, ?_⟩) (by assumption) ?_
                                  rotate_left
                                  · (intro w hSw; (try dsimp only at hSw); go_simp; (try with_reducible rfl))
                                  (try simp only [List.getElem_toArray, List.getElem_cons_succ, List.getElem_cons_zero, Act.put, List.setIfInBounds_toArray, List.set_cons_zero, List.set_cons_succ])
                                  refine wpAnyH_take (i := 26) (oi := _) (v := ?_) rfl (by kernel_rfl) (by kernel_rfl) (by kernel_rfl) (fun _ _ _ h => h) (Or.inl ⟨by rfl, ?_⟩) (by assumption) ?_
                                  rotate_left
                                  · (intro w hSw; (try dsimp only at hSw); go_simp; (try with_reducible rfl))
                                  (try simp only [List.getElem_toArray, List.getElem_cons_succ, List.getElem_cons_zero, Act.put, List.setIfInBounds_toArray, List.set_cons_zero, List.set_cons_succ])
                                  refine wpAnyH_ready (rs := [24]) (by kernel_rfl) (by simp) ?_
                                  refine AllReadyH.cons (o := _) rfl (fun K hK => ?_) ?_
                                  · (go_simp; go_at_call 26; refine Calls.mono (edges_any _ (HT5.out.gr.below hHeld.2.out)) ?_; rintro r w65 ⟨u65, rfl, hO65, hb65⟩; have hq65 := hO65.has; obtain ⟨a65, k65, hs65⟩ := hasE_shape hq65; have HQ65 : Hid _ := And.intro trivial hq65; generalize hgl65 : List.length _ = L65 at hs65; subst hs65; clear hO65 hq65 hgl65)
                                    (try go_wp2_with fail)
                                    refine hK.out _ _ ?_ (fun hHeld => ?_)
                                    · exact rg_up4 hb65 hHeld
                                    clear hK K
                                    (try simp only [List.getElem_toArray, List.getElem_cons_succ, List.getElem_cons_zero, Act.put, List.setIfInBounds_toArray, List.set_cons_zero, List.set_cons_succ])
                                    clear hb65
                                    refine wpAnyH_ready (rs := [27]) (by kernel_rfl) (by simp) ?_
                                    refine AllReadyH.cons (o := _) rfl (fun K hK => ?_) ?_
                                    · (go_simp; go_at_call 25; refine Calls.mono (BEdges.same_b _ _ _ _ (nf_big HT5.out.gr) HQ65.out.2 (HT5.out.te.below hHeld.2.out)) ?_; rintro r w66 ⟨rfl, hb66⟩)
                                      (try go_wp2_with fail)
                                      refine hK.out _ _ ?_ (fun hHeld => ?_)
                                      · exact rg_up4 hb66 hHeld
                                      clear hK K
                                      (try simp only [List.getElem_toArray, List.getElem_cons_succ, List.getElem_cons_zero, Act.put, List.setIfInBounds_toArray, List.set_cons_zero, List.set_cons_succ])
                                      clear hb66
                                      refine wpAnyH_take (i := 28) (oi := _) (v := ?_) rfl (by kernel_rfl) (by kernel_rfl) (by kernel_rfl) (fun _ _ _ h => h) (Or.inl ⟨by rfl, ?_⟩) (by assumption) ?_
                                      rotate_left
                                      · (intro w hSw; (try dsimp only at hSw); go_simp; (try with_reducible rfl))
                                      (try simp only [List.getElem_toArray, List.getElem_cons_succ, List.getElem_cons_zero, Act.put, List.setIfInBounds_toArray, List.set_cons_zero, List.set_cons_succ])
                                      refine wpAnyH_take (i := 29) (oi := _) (v := ?_) rfl (by kernel_rfl) (by kernel_rfl) (by kernel_rfl) (fun _ _ _ h => h) (Or.inl ⟨by rfl, ?_⟩) (by assumption) ?_
                                      rotate_left
                                      · (intro w hSw; (try dsimp only at hSw); go_simp; (try with_reducible rfl))
                                      (try simp only [List.getElem_toArray, List.getElem_cons_succ, List.getElem_cons_zero, Act.put, List.setIfInBounds_toArray, List.set_cons_zero, List.set_cons_succ])
                                      refine wpAnyH_take (i := 30) (oi := _) (v := ?_) rfl (by kernel_rfl) (by kernel_rfl) (by kernel_rfl) (fun _ _ _ h => h) (Or.inl ⟨by rfl, ?_⟩) (by assumption) ?_
                                      rotate_left
                                      · (intro w hSw; (try dsimp only at hSw); go_simp; (try with_reducible rfl))
                                      (try simp only [List.getElem_toArray, List.getElem_cons_succ, List.getElem_cons_zero, Act.put, List.setIfInBounds_toArray, List.set_cons_zero, List.set_cons_succ])
                                      refine wpAnyH_take (i := 32) (oi := _) (v := ?_) rfl (by kernel_rfl) (by kernel_rfl) (by kernel_rfl) (fun _ _ _ h => h) (Or.inl ⟨by rfl, ?_⟩) (by assumption) ?_
                                      rotate_left
                                      · (intro w hSw; (try dsimp only at hSw); go_simp; (try with_reducible rfl))
                                      (try simp only [List.getElem_toArray, List.getElem_cons_succ, List.getElem_cons_zero, Act.put, List.setIfInBounds_toArray, List.set_cons_zero, List.set_cons_succ])
                                      refine wpAnyH_ready (rs := [31]) (by kernel_rfl) (by simp) ?_
                                      refine AllReadyH.cons (o := _) rfl (fun K hK => ?_) ?_
                                      · (go_simp; go_at_call 27; refine Calls.mono (reach_any _ (HT5.out.gr.below hHeld.2.out)) ?_; rintro r w67 ⟨u67, ms, rfl, hO67, hml67, hms67, hb67⟩; have hq67 := hO67.has; rw [marks_same HM.out.1 hml67 HM.out.2.1 hms67] at hq67; obtain ⟨a67, k67, hs67⟩ := hasI_shape hq67; have HQ67 : Hid _ := And.intro trivial hq67; generalize hgl67 : List.length _ = L67 at hs67; subst hs67; clear hO67 hq67 hgl67 hms67 hml67)
                                        (try go_wp2_with fail)
                                        refine hK.out _ _ ?_ (fun hHeld => ?_)
                                        · exact rg_up4 hb67 hHeld
                                        clear hK K
                                        (try simp only [List.getElem_toArray, List.getElem_cons_succ, List.getElem_cons_zero, Act.put, List.setIfInBounds_toArray, List.set_cons_zero, List.set_cons_succ])
                                        clear hb67
                                        refine wpAnyH_ready (rs := [33]) (by kernel_rfl) (by simp) ?_
                                        refine AllReadyH.cons (o := _) rfl (fun K hK => ?_) ?_
                                        · (go_simp; go_at_call 19; refine Calls.mono (sameInts_any _ _ _ _ (marks_big HM.out.1 HT5.out.gr) HQ67.out.2 (HE3.out.2.1.below (bel5 hHeld.2.out HB.out))) ?_; rintro r w68 ⟨rfl, hb68⟩)
                                          (try go_wp2_with fail)
                                          refine hK.out _ _ ?_ (fun hHeld => ?_)
                                          · exact rg_up4 hb68 hHeld
                                          clear hK K
                                          (try simp only [List.getElem_toArray, List.getElem_cons_succ, List.getElem_cons_zero, Act.put, List.setIfInBounds_toArray, List.set_cons_zero, List.set_cons_succ])
                                          clear hb68
                                          refine wpAnyH_take (i := 34) (oi := _) (v := ?_) rfl (by kernel_rfl) (by kernel_rfl) (by kernel_rfl) (fun _ _ _ h => h) (Or.inl ⟨by rfl, ?_⟩) (by assumption) ?_
                                          rotate_left
                                          · (intro w hSw; (try dsimp only at hSw); go_simp; (try with_reducible rfl))
                                          (try simp only [List.getElem_toArray, List.getElem_cons_succ, List.getElem_cons_zero, Act.put, List.setIfInBounds_toArray, List.set_cons_zero, List.set_cons_succ])
                                          refine wpAnyH_take (i := 35) (oi := _) (v := ?_) rfl (by kernel_rfl) (by kernel_rfl) (by kernel_rfl) (fun _ _ _ h => h) (Or.inl ⟨by rfl, ?_⟩) (by assumption) ?_
                                          rotate_left
                                          · (intro w hSw; (try dsimp only at hSw); go_simp; (try with_reducible rfl))
                                          (try simp only [List.getElem_toArray, List.getElem_cons_succ, List.getElem_cons_zero, Act.put, List.setIfInBounds_toArray, List.set_cons_zero, List.set_cons_succ])
                                          refine wpAnyH_take (i := 36) (oi := _) (v := ?_) rfl (by kernel_rfl) (by kernel_rfl) (by kernel_rfl) (fun _ _ _ h => h) (Or.inl ⟨by rfl, ?_⟩) (by assumption) ?_
                                          rotate_left
                                          · (intro w hSw; (try dsimp only at hSw); go_simp; (try with_reducible rfl))
                                          (try simp only [List.getElem_toArray, List.getElem_cons_succ, List.getElem_cons_zero, Act.put, List.setIfInBounds_toArray, List.set_cons_zero, List.set_cons_succ])
                                          refine wpAnyH_take (i := 38) (oi := _) (v := ?_) rfl (by kernel_rfl) (by kernel_rfl) (by kernel_rfl) (fun _ _ _ h => h) (Or.inl ⟨by rfl, ?_⟩) (by assumption) ?_
                                          rotate_left
                                          · (intro w hSw; (try dsimp only at hSw); go_simp; (try with_reducible rfl))
                                          (try simp only [List.getElem_toArray, List.getElem_cons_succ, List.getElem_cons_zero, Act.put, List.setIfInBounds_toArray, List.set_cons_zero, List.set_cons_succ])
                                          refine wpAnyH_ready (rs := [37]) (by kernel_rfl) (by simp) ?_
                                          refine AllReadyH.cons (o := _) rfl (fun K hK => ?_) ?_
                                          · (go_simp; go_at_call 28; refine Calls.mono (degree_any _ (HT5.out.gr.below hHeld.2.out)) ?_; rintro r w69 ⟨rfl, hb69⟩; rw [← HM.out.2.2])
                                            (try go_wp2_with fail)
                                            refine hK.out _ _ ?_ (fun hHeld => ?_)
                                            · exact rg_up4 hb69 hHeld
                                            clear hK K
                                            (try simp only [List.getElem_toArray, List.getElem_cons_succ, List.getElem_cons_zero, Act.put, List.setIfInBounds_toArray, List.set_cons_zero, List.set_cons_succ])
                                            refine wpAnyH_take (i := 39) (oi := _) (v := ?_) rfl (by kernel_rfl) (by kernel_rfl) (by kernel_rfl) (fun _ _ _ h => h) (Or.inl ⟨by rfl, ?_⟩) (by assumption) ?_
                                            rotate_left
                                            · (intro w hSw; (try dsimp only at hSw); go_simp; (try with_reducible rfl))
                                            (try simp only [List.getElem_toArray, List.getElem_cons_succ, List.getElem_cons_zero, Act.put, List.setIfInBounds_toArray, List.set_cons_zero, List.set_cons_succ])
                                            refine wpAnyH_take (i := 40) (oi := _) (v := ?_) rfl (by kernel_rfl) (by kernel_rfl) (by kernel_rfl) (fun _ _ _ h => h) (Or.inl ⟨by rfl, ?_⟩) (by assumption) ?_
                                            rotate_left
                                            · (intro w hSw; (try dsimp only at hSw); go_simp; (try with_reducible rfl))
                                            (try simp only [List.getElem_toArray, List.getElem_cons_succ, List.getElem_cons_zero, Act.put, List.setIfInBounds_toArray, List.set_cons_zero, List.set_cons_succ])
                                            refine wpAnyH_take (i := 41) (oi := _) (v := ?_) rfl (by kernel_rfl) (by kernel_rfl) (by kernel_rfl) (fun _ _ _ h => h) (Or.inl ⟨by rfl, ?_⟩) (by assumption) ?_
                                            rotate_left
                                            · (intro w hSw; (try dsimp only at hSw); go_simp; (try with_reducible rfl))
                                            (try simp only [List.getElem_toArray, List.getElem_cons_succ, List.getElem_cons_zero, Act.put, List.setIfInBounds_toArray, List.set_cons_zero, List.set_cons_succ])
                                            refine wpAnyH_done (by kernel_rfl) ?_ _
                                            (try go_simp)
                                            have HF : Hid _ := bel5 hHeld.2.out HT5.out.b
                                            go_wp2_with fail
                                            go_ret
                                            exact ⟨rfl, HF.out⟩
                                          exact AllReadyH.nil
                                        exact AllReadyH.nil
                                      exact AllReadyH.nil
                                    exact AllReadyH.nil
                                  exact AllReadyH.nil
                                exact AllReadyH.nil
                              exact AllReadyH.nil
                            exact AllReadyH.nil
                          exact AllReadyH.nil
                    exact AllReadyH.nil
                  exact AllReadyH.nil
                · have HE : Hid (PlT w wr2 w3.heap.size g bs bb cs cb j2 k s es ao L cap wa.heap.size aa P ca o1 o2 us1 us2 ∧ (HasI wr2 (.slice none 0 0) (Sy.ends (Sy.rowOf j2 (Sy.nf es) i) b) ∧ HasI wr2 (.slice none 0 0) (Sy.ends (Sy.rowOf j2 (Sy.nf ((Sy.nf es).map Sy.turn)) i) b) ∧ BSteps.Has wr2 (.slice none 0 0) (Sy.rowOf j2 (Sy.nf es) i) ∧ BSteps.Has wr2 (.slice none 0 0) (Sy.rowOf j2 (Sy.nf ((Sy.nf es).map Sy.turn)) i)) ∧ D = Sy.degTo (Sy.nf es) j2) := by
                    rw [Sy.rowOf_no _ hst, Sy.rowOf_no _ hst]
                    exact ⟨HT3.out.1, ⟨hasI_nil0 _ _, hasI_nil0 _ _, hasS_nil _ _, hasS_nil _ _⟩, HT3.out.2⟩
                  obtain ⟨si, rfl⟩ : ∃ si : Int, si = i := ⟨_, rfl⟩
                  by_cases hng : si < 0
                  · have q9 : decide (0 ≤ si) = false := by simp; omega
                    have q10 : ¬ 0 ≤ si := by omega
                    clear hst HT3
                    go_upto_region 29 with fail
                    clear x0 x1 x2 x3
                    have hRe := refReach_of HE.out.1 HZ0.out.1 HZ0.out.2.1 HZ0.out.2.2.2
                    unfold sysV at hRe
                    obtain ⟨x0, x1, x2, x3⟩ := four_cells HE.out.1.sb
                    have HR : Hid _ := hRe
                    clear hRe
                    go_wp2_with fail
                    refine Calls.mono HR.out ?_
                    rintro r wf ⟨gq, rs, rfl, hAq, hrl, hrs⟩
                    have HR2 : Hid (Arr 4 wr2 wf gq (bC rs) ∧ rs.length = j2 ∧ ∀ p : Nat, p < j2 → (rs[p]? = some true ↔ Sy.Rea es s p)) := ⟨hAq, hrl, hrs⟩
                    have HE2 : Hid (PlT w wf w3.heap.size g bs bb cs cb j2 k s es ao L cap wa.heap.size aa P ca o1 o2 us1 us2) := HE.out.1.below hAq.bl
                    clear hAq hrl hrs HR x0 x1 x2 x3
                    obtain ⟨x0, x1, x2, x3⟩ := four_cells HE2.out.sb
                    go_wp2_with fail
                    go_loopg [21, 23] j2 (fun q uv iv wr => ∃ p : Nat, q = j2 - p ∧ p ≤ j2 ∧ iv = .int .i64 p ∧ OwnI wr wf.heap.size uv (Sy.marked (rs.take p)) ∧ Below wf.heap.size wf wr)
                    case atStart => exact ⟨0, rfl, Nat.zero_le _, rfl, World.ownsRow_nil _ _ _ _, Below.refl _ _⟩
                    case round =>
                      obtain ⟨p, rfl, hp, rfl, hO, hb⟩ := hrel
                      obtain ⟨wr3, rfl⟩ : ∃ wr3, wr3 = wr := ⟨_, rfl⟩
                      have z0 := cell_up x0 hb
                      obtain ⟨au, cu, hu⟩ := row_shape hO
                      obtain ⟨N, hN⟩ : ∃ N, N = (Sy.marked (rs.take p)).length := ⟨_, rfl⟩
                      rw [← hN] at hu
                      subst hu
                      by_cases hpm : p < j2
                      · obtain ⟨bt, hbt⟩ : ∃ bt, rs[p]? = some bt := ⟨rs[p]'(by have := HR2.out.2.1; omega), List.getElem?_eq_getElem _⟩
                        have z1 := (HR2.out.1.below hb).cell (bC_at hbt)
                        have hms := Sy.marked_snoc hbt
                        obtain ⟨i0, hi0, hz0, hz1, hz2⟩ := info_parts Tryz.infoI4
                        have hOz : wr3.ownsRow wf.heap.size 3 1 (.slice au N cu) N (iC (Sy.marked (rs.take p))) := by have h1 := hO; unfold OwnI at h1; rw [← hN] at h1; exact h1
                        have hNl : N ≤ 1000 := by have h1 := Sy.marked_len (rs.take p); have h3 := List.count_le_length (a := true) (l := rs.take p); rw [List.length_take] at h3; have h2 := HE2.out.gr.sizes; omega
                        have hml : N + 1 ≤ maxLen := by unfold maxLen; omega
                        have hby : (N + 1) * 8 ≤ 140737488355328 := by omega
                        have hle : wf.heap.size ≤ (wr3.alloc (.cells #[.int .i64 p] 3)).heap.size := by have := hb.size; simp; omega
                        have p0 : (0 : Int) ≤ (p : Int) := by omega
                        have p1 : (p : Int) < (j2 : Int) := by omega
                        have HW : Hid _ := And.intro hOz (And.intro hb (And.intro hms (And.intro hO hN)))
                        clear hO hOz hb hms hbt hN
                        cases bt with
                        | true =>
                          go_wp2_with (at_builtin; refine wpList_append_own_at _ rfl _ _ 44 rfl wf.heap.size 3 i0 (.int .i64 0) 1 8 Tryz.underlying44 hi0 hz0 hz1 hz2 rfl (by decide) (.slice au N cu) N (iC (Sy.marked (rs.take p))) rfl (HW.out.1.alloc _) ⟨wr3.heap.size, 0, none⟩ 1 1 [.int .i64 p] rfl rfl (World.news_of_block (cs := #[.int .i64 p]) (t := 3) (fr := (0, 0)) (heap_alloc_new wr3 _)) (by simp [Value.oneCell']) hml hby hle ?_; intro v5 w5 hO5 hg5 hnil5 hat5; have H5 : Hid _ := And.intro hO5 hg5; clear hO5 hg5 hnil5 hat5)
                          go_roundg (j2 - (p + 1))
                          case measure => omega
                          case rel =>
                            refine ⟨p + 1, rfl, by omega, by go_num, ?_, HW.out.2.1.trans ((grown_alloc H5.out.2).below HW.out.2.1.size fun b hb => (HW.out.1.lt b hb).1)⟩
                            have hx9 := HW.out.2.2.1
                            simp only [if_true] at hx9
                            rw [hx9]
                            unfold OwnI
                            rw [iC_snoc, List.length_append, ← HW.out.2.2.2.2]
                            exact H5.out.1
                        | false =>
                          go_wp2_with fail
                          go_roundg (j2 - (p + 1))
                          case measure => omega
                          case rel => exact ⟨p + 1, rfl, by omega, by go_num, by rw [HW.out.2.2.1]; simpa using HW.out.2.2.2.1, HW.out.2.1⟩
                      · obtain rfl : p = j2 := by omega
                        have p1 : ¬ (p : Int) < (p : Int) := by omega
                        have HE3 : Hid (PlT w wr3 w3.heap.size g bs bb cs cb p k s es ao L cap wa.heap.size aa P ca o1 o2 us1 us2 ∧ HasI wr3 (.slice au N cu) (Sy.marked rs) ∧ Below wf.heap.size wf wr3) := ⟨HE2.out.below hb, by have h1 := hO.has; rwa [List.take_of_length_le (by have := HR2.out.2.1; omega)] at h1, hb⟩
                        have HE4 : Hid (HasI wr3 (.slice none 0 0) (Sy.ends (Sy.rowOf p (Sy.nf es) si) b) ∧ HasI wr3 (.slice none 0 0) (Sy.ends (Sy.rowOf p (Sy.nf ((Sy.nf es).map Sy.turn)) si) b) ∧ BSteps.Has wr3 (.slice none 0 0) (Sy.rowOf p (Sy.nf es) si) ∧ BSteps.Has wr3 (.slice none 0 0) (Sy.rowOf p (Sy.nf ((Sy.nf es).map Sy.turn)) si)) := by
                          have h1 := bel5 hb HR2.out.1.bl
                          exact ⟨HE.out.2.1.1.below h1, HE.out.2.1.2.1.below h1, HE.out.2.1.2.2.1.below h1, HE.out.2.1.2.2.2.below h1⟩
                        have HM : Hid (rs.length = p ∧ (∀ q : Nat, q < p → (rs[q]? = some true ↔ Sy.Rea es s q)) ∧ D = Sy.degTo (Sy.nf es) p) := ⟨HR2.out.2.1, HR2.out.2.2, HE.out.2.2⟩
                        clear hO hb hN HE HR2 HE2 x0 x1 x2 x3 hpm hp
                        have HB : Hid (Below wr3.heap.size wr3 wr3) := Below.refl _ _
                        go_wp2_with fail
                        refine Calls.mono (by_any si b _ (HE3.out.1.gr.below HB.out)) ?_
                        rintro r w41 ⟨u41, rfl, hO41, hb41⟩
                        have hq41 := hO41.has
                        obtain ⟨a41, k41, hs41⟩ := hasI_shape hq41
                        have HQ41 : Hid _ := And.intro trivial hq41
                        have HB : Hid (Below wr3.heap.size wr3 w41) := bel5 hb41 HB.out
                        generalize hgl41 : List.length _ = L41 at hs41
                        subst hs41
                        clear hO41 hb41 hq41 hgl41
                        go_wp2_with fail
                        refine Calls.mono (sameInts_any _ _ _ _ (row_bigI HE3.out.1.gr _ _) HQ41.out.2 (HE4.out.1.below HB.out)) ?_
                        rintro r w42 ⟨rfl, hb42⟩
                        have HB : Hid (Below wr3.heap.size wr3 w42) := bel5 hb42 HB.out
                        clear hb42
                        go_wp2_with fail
                        refine Calls.mono (from_any si b _ (HE3.out.1.gr.below HB.out)) ?_
                        rintro r w43 ⟨u43, rfl, hO43, hb43⟩
                        have hq43 := hO43.has
                        obtain ⟨a43, k43, hs43⟩ := hasI_shape hq43
                        have HQ43 : Hid _ := And.intro trivial hq43
                        have HB : Hid (Below wr3.heap.size wr3 w43) := bel5 hb43 HB.out
                        generalize hgl43 : List.length _ = L43 at hs43
                        subst hs43
                        clear hO43 hb43 hq43 hgl43
                        go_wp2_with fail
                        refine Calls.mono (sameInts_any _ _ _ _ (row_bigI2 HE3.out.1.gr _ _) HQ43.out.2 (HE4.out.2.1.below HB.out)) ?_
                        rintro r w44 ⟨rfl, hb44⟩
                        have HB : Hid (Below wr3.heap.size wr3 w44) := bel5 hb44 HB.out
                        clear hb44
                        go_wp2_with fail
                        refine Calls.mono (out_any si _ (HE3.out.1.gr.below HB.out)) ?_
                        rintro r w45 ⟨u45, rfl, hO45, hb45⟩
                        have hq45 := hO45.has
                        obtain ⟨a45, k45, hs45⟩ := has_shape hq45
                        have HQ45 : Hid _ := And.intro trivial hq45
                        have HB : Hid (Below wr3.heap.size wr3 w45) := bel5 hb45 HB.out
                        generalize hgl45 : List.length _ = L45 at hs45
                        subst hs45
                        clear hO45 hb45 hq45 hgl45
                        go_wp2_with fail
                        refine Calls.mono (BSteps.same_b _ _ _ _ (row_bigS HE3.out.1.gr _) HQ45.out.2 (HE4.out.2.2.1.below HB.out)) ?_
                        rintro r w46 ⟨rfl, hb46⟩
                        have HB : Hid (Below wr3.heap.size wr3 w46) := bel5 hb46 HB.out
                        clear hb46
                        go_wp2_with fail
                        refine Calls.mono (in_any si _ (HE3.out.1.gr.below HB.out)) ?_
                        rintro r w47 ⟨u47, rfl, hO47, hb47⟩
                        have hq47 := hO47.has
                        obtain ⟨a47, k47, hs47⟩ := has_shape hq47
                        have HQ47 : Hid _ := And.intro trivial hq47
                        have HB : Hid (Below wr3.heap.size wr3 w47) := bel5 hb47 HB.out
                        generalize hgl47 : List.length _ = L47 at hs47
                        subst hs47
                        clear hO47 hb47 hq47 hgl47
                        go_wp2_with fail
                        refine Calls.mono (BSteps.same_b _ _ _ _ (row_bigS2 HE3.out.1.gr _) HQ47.out.2 (HE4.out.2.2.2.below HB.out)) ?_
                        rintro r w48 ⟨rfl, hb48⟩
                        have HB : Hid (Below wr3.heap.size wr3 w48) := bel5 hb48 HB.out
                        clear hb48
                        have hT5 := HE3.out.1.below HB.out
                        obtain ⟨x0, x1, x2, x3⟩ := four_cells hT5.sb
                        obtain ⟨v0, v1, v2, v3⟩ := four_cells hT5.tb
                        have HT5 : Hid (PlT w w48 w3.heap.size g bs bb cs cb p k s es ao L cap wa.heap.size aa P ca o1 o2 us1 us2) := hT5
                        clear hT5
                        go_upto_region 37 with fail
                        refine wp_region_held_drew (S := (fun w' => (w'.cell? ⟨w.heap.size, 0, none⟩ = some (.int .i64 p) ∧ w'.cell? ⟨w.heap.size, 1, none⟩ = some (.int .i64 k) ∧ w'.cell? ⟨w.heap.size, 2, none⟩ = some (.int .i64 s) ∧ w'.cell? ⟨wa.heap.size, 3, none⟩ = some (.slice aa P ca)) ∧ Hid (Below w48.heap.size w48 w'))) (by kernel_rfl) ?_ (fun hHeld => ?_)
                        · exact ⟨⟨x0, x1, x2, v3⟩, ((Below.refl _ _).drew : Below w48.heap.size w48 w48.drew)⟩
                        refine wpAnyH_ready (rs := [0]) (by kernel_rfl) (by simp) ?_
                        refine AllReadyH.cons (o := _) rfl (fun K hK => ?_) ?_
                        · (go_simp; go_at_call 5; refine Calls.mono (HZ0.out.2.2.1 _ (bel5 hHeld.2.out HT5.out.b)) ?_; rintro r w61 ⟨rfl, hb61⟩)
                          (try go_wp2_with fail)
                          refine hK.out _ _ ?_ (fun hHeld => ?_)
                          · exact rg_up4 hb61 hHeld
                          clear hK K
                          (try simp only [List.getElem_toArray, List.getElem_cons_succ, List.getElem_cons_zero, Act.put, List.setIfInBounds_toArray, List.set_cons_zero, List.set_cons_succ])
                          clear hb61
                          refine wpAnyH_take (i := 1) (oi := _) (v := ?_) rfl (by kernel_rfl) (by kernel_rfl) (by kernel_rfl) (fun _ _ _ h => h) (Or.inl ⟨by rfl, ?_⟩) (by assumption) ?_
                          rotate_left
                          · (intro w hSw; (try dsimp only at hSw); go_simp; (try with_reducible rfl))
                          (try simp only [List.getElem_toArray, List.getElem_cons_succ, List.getElem_cons_zero, Act.put, List.setIfInBounds_toArray, List.set_cons_zero, List.set_cons_succ])
                          refine wpAnyH_take (i := 2) (oi := _) (v := ?_) rfl (by kernel_rfl) (by kernel_rfl) (by kernel_rfl) (fun _ _ _ h => h) (Or.inl ⟨by rfl, ?_⟩) (by assumption) ?_
                          rotate_left
                          · (intro w hSw; (try dsimp only at hSw); go_simp; (try with_reducible rfl))
                          (try simp only [List.getElem_toArray, List.getElem_cons_succ, List.getElem_cons_zero, Act.put, List.setIfInBounds_toArray, List.set_cons_zero, List.set_cons_succ])
                          refine wpAnyH_take (i := 4) (oi := _) (v := ?_) rfl (by kernel_rfl) (by kernel_rfl) (by kernel_rfl) (fun _ _ _ h => h) (Or.inl ⟨by rfl, ?_⟩) (by assumption) ?_
                          rotate_left
                          · (intro w hSw; (try dsimp only at hSw); go_simp; (try with_reducible rfl))
                          (try simp only [List.getElem_toArray, List.getElem_cons_succ, List.getElem_cons_zero, Act.put, List.setIfInBounds_toArray, List.set_cons_zero, List.set_cons_succ])
                          refine wpAnyH_take (i := 5) (oi := _) (v := ?_) rfl (by kernel_rfl) (by kernel_rfl) (by kernel_rfl) (fun _ _ _ h => h) (Or.inl ⟨by rfl, ?_⟩) (by assumption) ?_
                          rotate_left
                          · (intro w hSw; (try dsimp only at hSw); go_simp; (try with_reducible rfl))
                          (try simp only [List.getElem_toArray, List.getElem_cons_succ, List.getElem_cons_zero, Act.put, List.setIfInBounds_toArray, List.set_cons_zero, List.set_cons_succ])
                          refine wpAnyH_ready (rs := [3]) (by kernel_rfl) (by simp) ?_
                          refine AllReadyH.cons (o := _) rfl (fun K hK => ?_) ?_
                          · (go_simp; go_at_call 22; refine Calls.mono (states_any _ (HT5.out.gr.below hHeld.2.out)) ?_; rintro r w62 ⟨rfl, hw62⟩; obtain rfl := hw62.symm; clear hw62)
                            (try go_wp2_with fail)
                            refine hK.out _ _ ?_ (fun hHeld => ?_)
                            · exact hHeld
                            clear hK K
                            (try simp only [List.getElem_toArray, List.getElem_cons_succ, List.getElem_cons_zero, Act.put, List.setIfInBounds_toArray, List.set_cons_zero, List.set_cons_succ])
                            refine wpAnyH_take (i := 6) (oi := _) (v := ?_) rfl (by kernel_rfl) (by kernel_rfl) (by kernel_rfl) (fun _ _ _ h => h) (Or.inl ⟨by rfl, ?_⟩) (by assumption) ?_
                            rotate_left
                            · (intro w hSw; (try dsimp only at hSw); go_simp; (try with_reducible rfl))
                            (try simp only [List.getElem_toArray, List.getElem_cons_succ, List.getElem_cons_zero, Act.put, List.setIfInBounds_toArray, List.set_cons_zero, List.set_cons_succ])
                            refine wpAnyH_take (i := 7) (oi := _) (v := ?_) rfl (by kernel_rfl) (by kernel_rfl) (by kernel_rfl) (fun _ _ _ h => h) (Or.inl ⟨by rfl, ?_⟩) (by assumption) ?_
                            rotate_left
                            · (intro w hSw; (try dsimp only at hSw); go_simp; (try with_reducible rfl))
                            (try simp only [List.getElem_toArray, List.getElem_cons_succ, List.getElem_cons_zero, Act.put, List.setIfInBounds_toArray, List.set_cons_zero, List.set_cons_succ])
                            refine wpAnyH_take (i := 8) (oi := _) (v := ?_) rfl (by kernel_rfl) (by kernel_rfl) (by kernel_rfl) (fun _ _ _ h => h) (Or.inl ⟨by rfl, ?_⟩) (by assumption) ?_
                            rotate_left
                            · (intro w hSw; (try dsimp only at hSw); go_simp; (try with_reducible rfl))
                            (try simp only [List.getElem_toArray, List.getElem_cons_succ, List.getElem_cons_zero, Act.put, List.setIfInBounds_toArray, List.set_cons_zero, List.set_cons_succ])
                            refine wpAnyH_take (i := 9) (oi := _) (v := ?_) rfl (by kernel_rfl) (by kernel_rfl) (by kernel_rfl) (fun _ _ _ h => h) (Or.inl ⟨by rfl, ?_⟩) (by assumption) ?_
                            rotate_left
                            · (intro w hSw; (try dsimp only at hSw); go_simp; (try with_reducible rfl))
                            (try simp only [List.getElem_toArray, List.getElem_cons_succ, List.getElem_cons_zero, Act.put, List.setIfInBounds_toArray, List.set_cons_zero, List.set_cons_succ])
                            refine wpAnyH_take (i := 11) (oi := _) (v := ?_) rfl (by kernel_rfl) (by kernel_rfl) (by kernel_rfl) (fun _ _ _ h => h) (Or.inl ⟨by rfl, ?_⟩) (by assumption) ?_
                            rotate_left
                            · (intro w hSw; (try dsimp only at hSw); go_simp; (try with_reducible rfl))
                            (try simp only [List.getElem_toArray, List.getElem_cons_succ, List.getElem_cons_zero, Act.put, List.setIfInBounds_toArray, List.set_cons_zero, List.set_cons_succ])
                            refine wpAnyH_take (i := 12) (oi := _) (v := ?_) rfl (by kernel_rfl) (by kernel_rfl) (by kernel_rfl) (fun _ _ _ h => h) (Or.inl ⟨by rfl, ?_⟩) (by assumption) ?_
                            rotate_left
                            · (intro w hSw; (try dsimp only at hSw); go_simp; (try with_reducible rfl))
                            (try simp only [List.getElem_toArray, List.getElem_cons_succ, List.getElem_cons_zero, Act.put, List.setIfInBounds_toArray, List.set_cons_zero, List.set_cons_succ])
                            refine wpAnyH_ready (rs := [10]) (by kernel_rfl) (by simp) ?_
                            refine AllReadyH.cons (o := _) rfl (fun K hK => ?_) ?_
                            · (go_simp; go_at_call 23; refine Calls.mono (labels_any _ (HT5.out.gr.below hHeld.2.out)) ?_; rintro r w63 ⟨rfl, hw63⟩; obtain rfl := hw63.symm; clear hw63)
                              (try go_wp2_with fail)
                              refine hK.out _ _ ?_ (fun hHeld => ?_)
                              · exact hHeld
                              clear hK K
                              (try simp only [List.getElem_toArray, List.getElem_cons_succ, List.getElem_cons_zero, Act.put, List.setIfInBounds_toArray, List.set_cons_zero, List.set_cons_succ])
                              refine wpAnyH_take (i := 13) (oi := _) (v := ?_) rfl (by kernel_rfl) (by kernel_rfl) (by kernel_rfl) (fun _ _ _ h => h) (Or.inl ⟨by rfl, ?_⟩) (by assumption) ?_
                              rotate_left
                              · (intro w hSw; (try dsimp only at hSw); go_simp; (try with_reducible rfl))
                              (try simp only [List.getElem_toArray, List.getElem_cons_succ, List.getElem_cons_zero, Act.put, List.setIfInBounds_toArray, List.set_cons_zero, List.set_cons_succ])
                              refine wpAnyH_take (i := 14) (oi := _) (v := ?_) rfl (by kernel_rfl) (by kernel_rfl) (by kernel_rfl) (fun _ _ _ h => h) (Or.inl ⟨by rfl, ?_⟩) (by assumption) ?_
                              rotate_left
                              · (intro w hSw; (try dsimp only at hSw); go_simp; (try with_reducible rfl))
                              (try simp only [List.getElem_toArray, List.getElem_cons_succ, List.getElem_cons_zero, Act.put, List.setIfInBounds_toArray, List.set_cons_zero, List.set_cons_succ])
                              refine wpAnyH_take (i := 15) (oi := _) (v := ?_) rfl (by kernel_rfl) (by kernel_rfl) (by kernel_rfl) (fun _ _ _ h => h) (Or.inl ⟨by rfl, ?_⟩) (by assumption) ?_
                              rotate_left
                              · (intro w hSw; (try dsimp only at hSw); go_simp; (try with_reducible rfl))
                              (try simp only [List.getElem_toArray, List.getElem_cons_succ, List.getElem_cons_zero, Act.put, List.setIfInBounds_toArray, List.set_cons_zero, List.set_cons_succ])
                              refine wpAnyH_take (i := 16) (oi := _) (v := ?_) rfl (by kernel_rfl) (by kernel_rfl) (by kernel_rfl) (fun _ _ _ h => h) (Or.inl ⟨by rfl, ?_⟩) (by assumption) ?_
                              rotate_left
                              · (intro w hSw; (try dsimp only at hSw); go_simp; (try with_reducible rfl))
                              (try simp only [List.getElem_toArray, List.getElem_cons_succ, List.getElem_cons_zero, Act.put, List.setIfInBounds_toArray, List.set_cons_zero, List.set_cons_succ])
                              refine wpAnyH_take (i := 18) (oi := _) (v := ?_) rfl (by kernel_rfl) (by kernel_rfl) (by kernel_rfl) (fun _ _ _ h => h) (Or.inl ⟨by rfl, ?_⟩) (by assumption) ?_
                              rotate_left
                              · (intro w hSw; (try dsimp only at hSw); go_simp; (try with_reducible rfl))
                              (try simp only [List.getElem_toArray, List.getElem_cons_succ, List.getElem_cons_zero, Act.put, List.setIfInBounds_toArray, List.set_cons_zero, List.set_cons_succ])
                              refine wpAnyH_take (i := 19) (oi := _) (v := ?_) rfl (by kernel_rfl) (by kernel_rfl) (by kernel_rfl) (fun _ _ _ h => h) (Or.inl ⟨by rfl, ?_⟩) (by assumption) ?_
                              rotate_left
                              · (intro w hSw; (try dsimp only at hSw); go_simp; (try with_reducible rfl))
                              (try simp only [List.getElem_toArray, List.getElem_cons_succ, List.getElem_cons_zero, Act.put, List.setIfInBounds_toArray, List.set_cons_zero, List.set_cons_succ])
                              refine wpAnyH_ready (rs := [17]) (by kernel_rfl) (by simp) ?_
                              refine AllReadyH.cons (o := _) rfl (fun K hK => ?_) ?_
                              · (go_simp; go_at_call 24; refine Calls.mono (start_any _ (HT5.out.gr.below hHeld.2.out)) ?_; rintro r w64 ⟨rfl, hw64⟩; obtain rfl := hw64.symm; clear hw64)
                                (try go_wp2_with fail)
                                refine hK.out _ _ ?_ (fun hHeld => ?_)
                                · exact hHeld
                                clear hK K
                                (try simp only [List.getElem_toArray, List.getElem_cons_succ, List.getElem_cons_zero, Act.put, List.setIfInBounds_toArray, List.set_cons_zero, List.set_cons_succ])
                                refine wpAnyH_take (i := 20) (oi := _) (v := ?_) rfl (by kernel_rfl) (by kernel_rfl) (by kernel_rfl) (fun _ _ _ h => h) (Or.inl ⟨by rfl, ?_⟩) (by assumption) ?_
                                rotate_left
                                · (intro w hSw; (try dsimp only at hSw); go_simp; (try with_reducible rfl))
                                (try simp only [List.getElem_toArray, List.getElem_cons_succ, List.getElem_cons_zero, Act.put, List.setIfInBounds_toArray, List.set_cons_zero, List.set_cons_succ])
                                refine wpAnyH_take (i := 21) (oi := _) (v := ?_) rfl (by kernel_rfl) (by kernel_rfl) (by kernel_rfl) (fun _ _ _ h => h) (Or.inl ⟨by rfl, ?_⟩) (by assumption) ?_
                                rotate_left
                                · (intro w hSw; (try dsimp only at hSw); go_simp; (try with_reducible rfl))
                                (try simp only [List.getElem_toArray, List.getElem_cons_succ, List.getElem_cons_zero, Act.put, List.setIfInBounds_toArray, List.set_cons_zero, List.set_cons_succ])
                                refine wpAnyH_take (i := 22) (oi := _) (v := ?_) rfl (by kernel_rfl) (by kernel_rfl) (by kernel_rfl) (fun _ _ _ h => h) (Or.inl ⟨by rfl, ?_⟩) (by assumption) ?_
                                rotate_left
                                · (intro w hSw; (try dsimp only at hSw); go_simp; (try with_reducible rfl))
                                (try simp only [List.getElem_toArray, List.getElem_cons_succ, List.getElem_cons_zero, Act.put, List.setIfInBounds_toArray, List.set_cons_zero, List.set_cons_succ])
                                refine wpAnyH_take (i := 23) (oi := _) (v := ?_) rfl (by kernel_rfl) (by kernel_rfl) (by kernel_rfl) (fun _ _ _ h => h) (Or.inl ⟨by rfl, ?_⟩) (by assumption) ?_
                                rotate_left
                                · (intro w hSw; (try dsimp only at hSw); go_simp; (try with_reducible rfl))
                                (try simp only [List.getElem_toArray, List.getElem_cons_succ, List.getElem_cons_zero, Act.put, List.setIfInBounds_toArray, List.set_cons_zero, List.set_cons_succ])
                                refine wpAnyH_take (i := 25) (oi := _) (v := ?_) rfl (by kernel_rfl) (by kernel_rfl) (by kernel_rfl) (fun _ _ _ h => h) (Or.inl ⟨by rfl, ?_⟩) (by assumption) ?_
                                rotate_left
                                · (intro w hSw; (try dsimp only at hSw); go_simp; (try with_reducible rfl))
                                (try simp only [List.getElem_toArray, List.getElem_cons_succ, List.getElem_cons_zero, Act.put, List.setIfInBounds_toArray, List.set_cons_zero, List.set_cons_succ])
                                refine wpAnyH_take (i := 26) (oi := _) (v := ?_) rfl (by kernel_rfl) (by kernel_rfl) (by kernel_rfl) (fun _ _ _ h => h) (Or.inl ⟨by rfl, ?_⟩) (by assumption) ?_
                                rotate_left
                                · (intro w hSw; (try dsimp only at hSw); go_simp; (try with_reducible rfl))
                                (try simp only [List.getElem_toArray, List.getElem_cons_succ, List.getElem_cons_zero, Act.put, List.setIfInBounds_toArray, List.set_cons_zero, List.set_cons_succ])
                                refine wpAnyH_ready (rs := [24]) (by kernel_rfl) (by simp) ?_
                                refine AllReadyH.cons (o := _) rfl (fun K hK => ?_) ?_
                                · (go_simp; go_at_call 26; refine Calls.mono (edges_any _ (HT5.out.gr.below hHeld.2.out)) ?_; rintro r w65 ⟨u65, rfl, hO65, hb65⟩; have hq65 := hO65.has; obtain ⟨a65, k65, hs65⟩ := hasE_shape hq65; have HQ65 : Hid _ := And.intro trivial hq65; generalize hgl65 : List.length _ = L65 at hs65; subst hs65; clear hO65 hq65 hgl65)
                                  (try go_wp2_with fail)
                                  refine hK.out _ _ ?_ (fun hHeld => ?_)
                                  · exact rg_up4 hb65 hHeld
                                  clear hK K
                                  (try simp only [List.getElem_toArray, List.getElem_cons_succ, List.getElem_cons_zero, Act.put, List.setIfInBounds_toArray, List.set_cons_zero, List.set_cons_succ])
                                  clear hb65
                                  refine wpAnyH_ready (rs := [27]) (by kernel_rfl) (by simp) ?_
                                  refine AllReadyH.cons (o := _) rfl (fun K hK => ?_) ?_
                                  · (go_simp; go_at_call 25; refine Calls.mono (BEdges.same_b _ _ _ _ (nf_big HT5.out.gr) HQ65.out.2 (HT5.out.te.below hHeld.2.out)) ?_; rintro r w66 ⟨rfl, hb66⟩)
                                    (try go_wp2_with fail)
                                    refine hK.out _ _ ?_ (fun hHeld => ?_)
                                    · exact rg_up4 hb66 hHeld
                                    clear hK K
                                    (try simp only [List.getElem_toArray, List.getElem_cons_succ, List.getElem_cons_zero, Act.put, List.setIfInBounds_toArray, List.set_cons_zero, List.set_cons_succ])
                                    clear hb66
                                    refine wpAnyH_take (i := 28) (oi := _) (v := ?_) rfl (by kernel_rfl) (by kernel_rfl) (by kernel_rfl) (fun _ _ _ h => h) (Or.inl ⟨by rfl, ?_⟩) (by assumption) ?_
                                    rotate_left
                                    · (intro w hSw; (try dsimp only at hSw); go_simp; (try with_reducible rfl))
                                    (try simp only [List.getElem_toArray, List.getElem_cons_succ, List.getElem_cons_zero, Act.put, List.setIfInBounds_toArray, List.set_cons_zero, List.set_cons_succ])
                                    refine wpAnyH_take (i := 29) (oi := _) (v := ?_) rfl (by kernel_rfl) (by kernel_rfl) (by kernel_rfl) (fun _ _ _ h => h) (Or.inl ⟨by rfl, ?_⟩) (by assumption) ?_
                                    rotate_left
                                    · (intro w hSw; (try dsimp only at hSw); go_simp; (try with_reducible rfl))
                                    (try simp only [List.getElem_toArray, List.getElem_cons_succ, List.getElem_cons_zero, Act.put, List.setIfInBounds_toArray, List.set_cons_zero, List.set_cons_succ])
                                    refine wpAnyH_take (i := 30) (oi := _) (v := ?_) rfl (by kernel_rfl) (by kernel_rfl) (by kernel_rfl) (fun _ _ _ h => h) (Or.inl ⟨by rfl, ?_⟩) (by assumption) ?_
                                    rotate_left
                                    · (intro w hSw; (try dsimp only at hSw); go_simp; (try with_reducible rfl))
                                    (try simp only [List.getElem_toArray, List.getElem_cons_succ, List.getElem_cons_zero, Act.put, List.setIfInBounds_toArray, List.set_cons_zero, List.set_cons_succ])
                                    refine wpAnyH_take (i := 32) (oi := _) (v := ?_) rfl (by kernel_rfl) (by kernel_rfl) (by kernel_rfl) (fun _ _ _ h => h) (Or.inl ⟨by rfl, ?_⟩) (by assumption) ?_
                                    rotate_left
                                    · (intro w hSw; (try dsimp only at hSw); go_simp; (try with_reducible rfl))
                                    (try simp only [List.getElem_toArray, List.getElem_cons_succ, List.getElem_cons_zero, Act.put, List.setIfInBounds_toArray, List.set_cons_zero, List.set_cons_succ])
                                    refine wpAnyH_ready (rs := [31]) (by kernel_rfl) (by simp) ?_
                                    refine AllReadyH.cons (o := _) rfl (fun K hK => ?_) ?_
                                    · (go_simp; go_at_call 27; refine Calls.mono (reach_any _ (HT5.out.gr.below hHeld.2.out)) ?_; rintro r w67 ⟨u67, ms, rfl, hO67, hml67, hms67, hb67⟩; have hq67 := hO67.has; rw [marks_same HM.out.1 hml67 HM.out.2.1 hms67] at hq67; obtain ⟨a67, k67, hs67⟩ := hasI_shape hq67; have HQ67 : Hid _ := And.intro trivial hq67; generalize hgl67 : List.length _ = L67 at hs67; subst hs67; clear hO67 hq67 hgl67 hms67 hml67)
                                      (try go_wp2_with fail)
                                      refine hK.out _ _ ?_ (fun hHeld => ?_)
                                      · exact rg_up4 hb67 hHeld
                                      clear hK K
                                      (try simp only [List.getElem_toArray, List.getElem_cons_succ, List.getElem_cons_zero, Act.put, List.setIfInBounds_toArray, List.set_cons_zero, List.set_cons_succ])
                                      clear hb67
                                      refine wpAnyH_ready (rs := [33]) (by kernel_rfl) (by simp) ?_
                                      refine AllReadyH.cons (o := _) rfl (fun K hK => ?_) ?_
                                      · (go_simp; go_at_call 19; refine Calls.mono (sameInts_any _ _ _ _ (marks_big HM.out.1 HT5.out.gr) HQ67.out.2 (HE3.out.2.1.below (bel5 hHeld.2.out HB.out))) ?_; rintro r w68 ⟨rfl, hb68⟩)
                                        (try go_wp2_with fail)
                                        refine hK.out _ _ ?_ (fun hHeld => ?_)
                                        · exact rg_up4 hb68 hHeld
                                        clear hK K
                                        (try simp only [List.getElem_toArray, List.getElem_cons_succ, List.getElem_cons_zero, Act.put, List.setIfInBounds_toArray, List.set_cons_zero, List.set_cons_succ])
                                        clear hb68
                                        refine wpAnyH_take (i := 34) (oi := _) (v := ?_) rfl (by kernel_rfl) (by kernel_rfl) (by kernel_rfl) (fun _ _ _ h => h) (Or.inl ⟨by rfl, ?_⟩) (by assumption) ?_
                                        rotate_left
                                        · (intro w hSw; (try dsimp only at hSw); go_simp; (try with_reducible rfl))
                                        (try simp only [List.getElem_toArray, List.getElem_cons_succ, List.getElem_cons_zero, Act.put, List.setIfInBounds_toArray, List.set_cons_zero, List.set_cons_succ])
                                        refine wpAnyH_take (i := 35) (oi := _) (v := ?_) rfl (by kernel_rfl) (by kernel_rfl) (by kernel_rfl) (fun _ _ _ h => h) (Or.inl ⟨by rfl, ?_⟩) (by assumption) ?_
                                        rotate_left
                                        · (intro w hSw; (try dsimp only at hSw); go_simp; (try with_reducible rfl))
                                        (try simp only [List.getElem_toArray, List.getElem_cons_succ, List.getElem_cons_zero, Act.put, List.setIfInBounds_toArray, List.set_cons_zero, List.set_cons_succ])
                                        refine wpAnyH_take (i := 36) (oi := _) (v := ?_) rfl (by kernel_rfl) (by kernel_rfl) (by kernel_rfl) (fun _ _ _ h => h) (Or.inl ⟨by rfl, ?_⟩) (by assumption) ?_
                                        rotate_left
                                        · (intro w hSw; (try dsimp only at hSw); go_simp; (try with_reducible rfl))
                                        (try simp only [List.getElem_toArray, List.getElem_cons_succ, List.getElem_cons_zero, Act.put, List.setIfInBounds_toArray, List.set_cons_zero, List.set_cons_succ])
                                        refine wpAnyH_take (i := 38) (oi := _) (v := ?_) rfl (by kernel_rfl) (by kernel_rfl) (by kernel_rfl) (fun _ _ _ h => h) (Or.inl ⟨by rfl, ?_⟩) (by assumption) ?_
                                        rotate_left
                                        · (intro w hSw; (try dsimp only at hSw); go_simp; (try with_reducible rfl))
                                        (try simp only [List.getElem_toArray, List.getElem_cons_succ, List.getElem_cons_zero, Act.put, List.setIfInBounds_toArray, List.set_cons_zero, List.set_cons_succ])
                                        refine wpAnyH_ready (rs := [37]) (by kernel_rfl) (by simp) ?_
                                        refine AllReadyH.cons (o := _) rfl (fun K hK => ?_) ?_
                                        · (go_simp; go_at_call 28; refine Calls.mono (degree_any _ (HT5.out.gr.below hHeld.2.out)) ?_; rintro r w69 ⟨rfl, hb69⟩; rw [← HM.out.2.2])
                                          (try go_wp2_with fail)
                                          refine hK.out _ _ ?_ (fun hHeld => ?_)
                                          · exact rg_up4 hb69 hHeld
                                          clear hK K
                                          (try simp only [List.getElem_toArray, List.getElem_cons_succ, List.getElem_cons_zero, Act.put, List.setIfInBounds_toArray, List.set_cons_zero, List.set_cons_succ])
                                          refine wpAnyH_take (i := 39) (oi := _) (v := ?_) rfl (by kernel_rfl) (by kernel_rfl) (by kernel_rfl) (fun _ _ _ h => h) (Or.inl ⟨by rfl, ?_⟩) (by assumption) ?_
                                          rotate_left
                                          · (intro w hSw; (try dsimp only at hSw); go_simp; (try with_reducible rfl))
                                          (try simp only [List.getElem_toArray, List.getElem_cons_succ, List.getElem_cons_zero, Act.put, List.setIfInBounds_toArray, List.set_cons_zero, List.set_cons_succ])
                                          refine wpAnyH_take (i := 40) (oi := _) (v := ?_) rfl (by kernel_rfl) (by kernel_rfl) (by kernel_rfl) (fun _ _ _ h => h) (Or.inl ⟨by rfl, ?_⟩) (by assumption) ?_
                                          rotate_left
                                          · (intro w hSw; (try dsimp only at hSw); go_simp; (try with_reducible rfl))
                                          (try simp only [List.getElem_toArray, List.getElem_cons_succ, List.getElem_cons_zero, Act.put, List.setIfInBounds_toArray, List.set_cons_zero, List.set_cons_succ])
                                          refine wpAnyH_take (i := 41) (oi := _) (v := ?_) rfl (by kernel_rfl) (by kernel_rfl) (by kernel_rfl) (fun _ _ _ h => h) (Or.inl ⟨by rfl, ?_⟩) (by assumption) ?_
                                          rotate_left
                                          · (intro w hSw; (try dsimp only at hSw); go_simp; (try with_reducible rfl))
                                          (try simp only [List.getElem_toArray, List.getElem_cons_succ, List.getElem_cons_zero, Act.put, List.setIfInBounds_toArray, List.set_cons_zero, List.set_cons_succ])
                                          refine wpAnyH_done (by kernel_rfl) ?_ _
                                          (try go_simp)
                                          have HF : Hid _ := bel5 hHeld.2.out HT5.out.b
                                          go_wp2_with fail
                                          go_ret
                                          exact ⟨rfl, HF.out⟩
                                        exact AllReadyH.nil
                                      exact AllReadyH.nil
                                    exact AllReadyH.nil
                                  exact AllReadyH.nil
                                exact AllReadyH.nil
                              exact AllReadyH.nil
                            exact AllReadyH.nil
                          exact AllReadyH.nil
                        exact AllReadyH.nil
                  · have q10 : 0 ≤ si := by omega
                    have q9 : ¬ si < (j2 : Int) := by omega
                    clear hst HT3
                    go_upto_region 29 with fail
                    clear x0 x1 x2 x3
                    have hRe := refReach_of HE.out.1 HZ0.out.1 HZ0.out.2.1 HZ0.out.2.2.2
                    unfold sysV at hRe
                    obtain ⟨x0, x1, x2, x3⟩ := four_cells HE.out.1.sb
                    have HR : Hid _ := hRe
                    clear hRe
                    go_wp2_with fail
                    refine Calls.mono HR.out ?_
                    rintro r wf ⟨gq, rs, rfl, hAq, hrl, hrs⟩
                    have HR2 : Hid (Arr 4 wr2 wf gq (bC rs) ∧ rs.length = j2 ∧ ∀ p : Nat, p < j2 → (rs[p]? = some true ↔ Sy.Rea es s p)) := ⟨hAq, hrl, hrs⟩
                    have HE2 : Hid (PlT w wf w3.heap.size g bs bb cs cb j2 k s es ao L cap wa.heap.size aa P ca o1 o2 us1 us2) := HE.out.1.below hAq.bl
                    clear hAq hrl hrs HR x0 x1 x2 x3
                    obtain ⟨x0, x1, x2, x3⟩ := four_cells HE2.out.sb
                    go_wp2_with fail
                    go_loopg [21, 23] j2 (fun q uv iv wr => ∃ p : Nat, q = j2 - p ∧ p ≤ j2 ∧ iv = .int .i64 p ∧ OwnI wr wf.heap.size uv (Sy.marked (rs.take p)) ∧ Below wf.heap.size wf wr)
                    case atStart => exact ⟨0, rfl, Nat.zero_le _, rfl, World.ownsRow_nil _ _ _ _, Below.refl _ _⟩
                    case round =>
                      obtain ⟨p, rfl, hp, rfl, hO, hb⟩ := hrel
                      obtain ⟨wr3, rfl⟩ : ∃ wr3, wr3 = wr := ⟨_, rfl⟩
                      have z0 := cell_up x0 hb
                      obtain ⟨au, cu, hu⟩ := row_shape hO
                      obtain ⟨N, hN⟩ : ∃ N, N = (Sy.marked (rs.take p)).length := ⟨_, rfl⟩
                      rw [← hN] at hu
                      subst hu
                      by_cases hpm : p < j2
                      · obtain ⟨bt, hbt⟩ : ∃ bt, rs[p]? = some bt := ⟨rs[p]'(by have := HR2.out.2.1; omega), List.getElem?_eq_getElem _⟩
                        have z1 := (HR2.out.1.below hb).cell (bC_at hbt)
                        have hms := Sy.marked_snoc hbt
                        obtain ⟨i0, hi0, hz0, hz1, hz2⟩ := info_parts Tryz.infoI4
                        have hOz : wr3.ownsRow wf.heap.size 3 1 (.slice au N cu) N (iC (Sy.marked (rs.take p))) := by have h1 := hO; unfold OwnI at h1; rw [← hN] at h1; exact h1
                        have hNl : N ≤ 1000 := by have h1 := Sy.marked_len (rs.take p); have h3 := List.count_le_length (a := true) (l := rs.take p); rw [List.length_take] at h3; have h2 := HE2.out.gr.sizes; omega
                        have hml : N + 1 ≤ maxLen := by unfold maxLen; omega
                        have hby : (N + 1) * 8 ≤ 140737488355328 := by omega
                        have hle : wf.heap.size ≤ (wr3.alloc (.cells #[.int .i64 p] 3)).heap.size := by have := hb.size; simp; omega
                        have p0 : (0 : Int) ≤ (p : Int) := by omega
                        have p1 : (p : Int) < (j2 : Int) := by omega
                        have HW : Hid _ := And.intro hOz (And.intro hb (And.intro hms (And.intro hO hN)))
                        clear hO hOz hb hms hbt hN
                        cases bt with
                        | true =>
                          go_wp2_with (at_builtin; refine wpList_append_own_at _ rfl _ _ 44 rfl wf.heap.size 3 i0 (.int .i64 0) 1 8 Tryz.underlying44 hi0 hz0 hz1 hz2 rfl (by decide) (.slice au N cu) N (iC (Sy.marked (rs.take p))) rfl (HW.out.1.alloc _) ⟨wr3.heap.size, 0, none⟩ 1 1 [.int .i64 p] rfl rfl (World.news_of_block (cs := #[.int .i64 p]) (t := 3) (fr := (0, 0)) (heap_alloc_new wr3 _)) (by simp [Value.oneCell']) hml hby hle ?_; intro v5 w5 hO5 hg5 hnil5 hat5; have H5 : Hid _ := And.intro hO5 hg5; clear hO5 hg5 hnil5 hat5)
                          go_roundg (j2 - (p + 1))
                          case measure => omega
                          case rel =>
                            refine ⟨p + 1, rfl, by omega, by go_num, ?_, HW.out.2.1.trans ((grown_alloc H5.out.2).below HW.out.2.1.size fun b hb => (HW.out.1.lt b hb).1)⟩
                            have hx9 := HW.out.2.2.1
                            simp only [if_true] at hx9
                            rw [hx9]
                            unfold OwnI
                            rw [iC_snoc, List.length_append, ← HW.out.2.2.2.2]
                            exact H5.out.1
                        | false =>
                          go_wp2_with fail
                          go_roundg (j2 - (p + 1))
                          case measure => omega
                          case rel => exact ⟨p + 1, rfl, by omega, by go_num, by rw [HW.out.2.2.1]; simpa using HW.out.2.2.2.1, HW.out.2.1⟩
                      · obtain rfl : p = j2 := by omega
                        have p1 : ¬ (p : Int) < (p : Int) := by omega
                        have HE3 : Hid (PlT w wr3 w3.heap.size g bs bb cs cb p k s es ao L cap wa.heap.size aa P ca o1 o2 us1 us2 ∧ HasI wr3 (.slice au N cu) (Sy.marked rs) ∧ Below wf.heap.size wf wr3) := ⟨HE2.out.below hb, by have h1 := hO.has; rwa [List.take_of_length_le (by have := HR2.out.2.1; omega)] at h1, hb⟩
                        have HE4 : Hid (HasI wr3 (.slice none 0 0) (Sy.ends (Sy.rowOf p (Sy.nf es) si) b) ∧ HasI wr3 (.slice none 0 0) (Sy.ends (Sy.rowOf p (Sy.nf ((Sy.nf es).map Sy.turn)) si) b) ∧ BSteps.Has wr3 (.slice none 0 0) (Sy.rowOf p (Sy.nf es) si) ∧ BSteps.Has wr3 (.slice none 0 0) (Sy.rowOf p (Sy.nf ((Sy.nf es).map Sy.turn)) si)) := by
                          have h1 := bel5 hb HR2.out.1.bl
                          exact ⟨HE.out.2.1.1.below h1, HE.out.2.1.2.1.below h1, HE.out.2.1.2.2.1.below h1, HE.out.2.1.2.2.2.below h1⟩
                        have HM : Hid (rs.length = p ∧ (∀ q : Nat, q < p → (rs[q]? = some true ↔ Sy.Rea es s q)) ∧ D = Sy.degTo (Sy.nf es) p) := ⟨HR2.out.2.1, HR2.out.2.2, HE.out.2.2⟩
                        clear hO hb hN HE HR2 HE2 x0 x1 x2 x3 hpm hp
                        have HB : Hid (Below wr3.heap.size wr3 wr3) := Below.refl _ _
                        go_wp2_with fail
                        refine Calls.mono (by_any si b _ (HE3.out.1.gr.below HB.out)) ?_
                        rintro r w41 ⟨u41, rfl, hO41, hb41⟩
                        have hq41 := hO41.has
                        obtain ⟨a41, k41, hs41⟩ := hasI_shape hq41
                        have HQ41 : Hid _ := And.intro trivial hq41
                        have HB : Hid (Below wr3.heap.size wr3 w41) := bel5 hb41 HB.out
                        generalize hgl41 : List.length _ = L41 at hs41
                        subst hs41
                        clear hO41 hb41 hq41 hgl41
                        go_wp2_with fail
                        refine Calls.mono (sameInts_any _ _ _ _ (row_bigI HE3.out.1.gr _ _) HQ41.out.2 (HE4.out.1.below HB.out)) ?_
                        rintro r w42 ⟨rfl, hb42⟩
                        have HB : Hid (Below wr3.heap.size wr3 w42) := bel5 hb42 HB.out
                        clear hb42
                        go_wp2_with fail
                        refine Calls.mono (from_any si b _ (HE3.out.1.gr.below HB.out)) ?_
                        rintro r w43 ⟨u43, rfl, hO43, hb43⟩
                        have hq43 := hO43.has
                        obtain ⟨a43, k43, hs43⟩ := hasI_shape hq43
                        have HQ43 : Hid _ := And.intro trivial hq43
                        have HB : Hid (Below wr3.heap.size wr3 w43) := bel5 hb43 HB.out
                        generalize hgl43 : List.length _ = L43 at hs43
                        subst hs43
                        clear hO43 hb43 hq43 hgl43
                        go_wp2_with fail
                        refine Calls.mono (sameInts_any _ _ _ _ (row_bigI2 HE3.out.1.gr _ _) HQ43.out.2 (HE4.out.2.1.below HB.out)) ?_
                        rintro r w44 ⟨rfl, hb44⟩
                        have HB : Hid (Below wr3.heap.size wr3 w44) := bel5 hb44 HB.out
                        clear hb44
                        go_wp2_with fail
                        refine Calls.mono (out_any si _ (HE3.out.1.gr.below HB.out)) ?_
                        rintro r w45 ⟨u45, rfl, hO45, hb45⟩
                        have hq45 := hO45.has
                        obtain ⟨a45, k45, hs45⟩ := has_shape hq45
                        have HQ45 : Hid _ := And.intro trivial hq45
                        have HB : Hid (Below wr3.heap.size wr3 w45) := bel5 hb45 HB.out
                        generalize hgl45 : List.length _ = L45 at hs45
                        subst hs45
                        clear hO45 hb45 hq45 hgl45
                        go_wp2_with fail
                        refine Calls.mono (BSteps.same_b _ _ _ _ (row_bigS HE3.out.1.gr _) HQ45.out.2 (HE4.out.2.2.1.below HB.out)) ?_
                        rintro r w46 ⟨rfl, hb46⟩
                        have HB : Hid (Below wr3.heap.size wr3 w46) := bel5 hb46 HB.out
                        clear hb46
                        go_wp2_with fail
                        refine Calls.mono (in_any si _ (HE3.out.1.gr.below HB.out)) ?_
                        rintro r w47 ⟨u47, rfl, hO47, hb47⟩
                        have hq47 := hO47.has
                        obtain ⟨a47, k47, hs47⟩ := has_shape hq47
                        have HQ47 : Hid _ := And.intro trivial hq47
                        have HB : Hid (Below wr3.heap.size wr3 w47) := bel5 hb47 HB.out
                        generalize hgl47 : List.length _ = L47 at hs47
                        subst hs47
                        clear hO47 hb47 hq47 hgl47
                        go_wp2_with fail
                        refine Calls.mono (BSteps.same_b _ _ _ _ (row_bigS2 HE3.out.1.gr _) HQ47.out.2 (HE4.out.2.2.2.below HB.out)) ?_
                        rintro r w48 ⟨rfl, hb48⟩
                        have HB : Hid (Below wr3.heap.size wr3 w48) := bel5 hb48 HB.out
                        clear hb48
                        have hT5 := HE3.out.1.below HB.out
                        obtain ⟨x0, x1, x2, x3⟩ := four_cells hT5.sb
                        obtain ⟨v0, v1, v2, v3⟩ := four_cells hT5.tb
                        have HT5 : Hid (PlT w w48 w3.heap.size g bs bb cs cb p k s es ao L cap wa.heap.size aa P ca o1 o2 us1 us2) := hT5
                        clear hT5
                        go_upto_region 37 with fail
                        refine wp_region_held_drew (S := (fun w' => (w'.cell? ⟨w.heap.size, 0, none⟩ = some (.int .i64 p) ∧ w'.cell? ⟨w.heap.size, 1, none⟩ = some (.int .i64 k) ∧ w'.cell? ⟨w.heap.size, 2, none⟩ = some (.int .i64 s) ∧ w'.cell? ⟨wa.heap.size, 3, none⟩ = some (.slice aa P ca)) ∧ Hid (Below w48.heap.size w48 w'))) (by kernel_rfl) ?_ (fun hHeld => ?_)
                        · exact ⟨⟨x0, x1, x2, v3⟩, ((Below.refl _ _).drew : Below w48.heap.size w48 w48.drew)⟩
                        refine wpAnyH_ready (rs := [0]) (by kernel_rfl) (by simp) ?_
                        refine AllReadyH.cons (o := _) rfl (fun K hK => ?_) ?_
                        · (go_simp; go_at_call 5; refine Calls.mono (HZ0.out.2.2.1 _ (bel5 hHeld.2.out HT5.out.b)) ?_; rintro r w61 ⟨rfl, hb61⟩)
                          (try go_wp2_with fail)
                          refine hK.out _ _ ?_ (fun hHeld => ?_)
                          · exact rg_up4 hb61 hHeld
                          clear hK K
                          (try simp only [List.getElem_toArray, List.getElem_cons_succ, List.getElem_cons_zero, Act.put, List.setIfInBounds_toArray, List.set_cons_zero, List.set_cons_succ])
                          clear hb61
                          refine wpAnyH_take (i := 1) (oi := _) (v := ?_) rfl (by kernel_rfl) (by kernel_rfl) (by kernel_rfl) (fun _ _ _ h => h) (Or.inl ⟨by rfl, ?_⟩) (by assumption) ?_
                          rotate_left
                          · (intro w hSw; (try dsimp only at hSw); go_simp; (try with_reducible rfl))
                          (try simp only [List.getElem_toArray, List.getElem_cons_succ, List.getElem_cons_zero, Act.put, List.setIfInBounds_toArray, List.set_cons_zero, List.set_cons_succ])
                          refine wpAnyH_take (i := 2) (oi := _) (v := ?_) rfl (by kernel_rfl) (by kernel_rfl) (by kernel_rfl) (fun _ _ _ h => h) (Or.inl ⟨by rfl, ?_⟩) (by assumption) ?_
                          rotate_left
                          · (intro w hSw; (try dsimp only at hSw); go_simp; (try with_reducible rfl))
                          (try simp only [List.getElem_toArray, List.getElem_cons_succ, List.getElem_cons_zero, Act.put, List.setIfInBounds_toArray, List.set_cons_zero, List.set_cons_succ])
                          refine wpAnyH_take (i := 4) (oi := _) (v := ?_) rfl (by kernel_rfl) (by kernel_rfl) (by kernel_rfl) (fun _ _ _ h => h) (Or.inl ⟨by rfl, ?_⟩) (by assumption) ?_
                          rotate_left
                          · (intro w hSw; (try dsimp only at hSw); go_simp; (try with_reducible rfl))
                          (try simp only [List.getElem_toArray, List.getElem_cons_succ, List.getElem_cons_zero, Act.put, List.setIfInBounds_toArray, List.set_cons_zero, List.set_cons_succ])
                          refine wpAnyH_take (i := 5) (oi := _) (v := ?_) rfl (by kernel_rfl) (by kernel_rfl) (by kernel_rfl) (fun _ _ _ h => h) (Or.inl ⟨by rfl, ?_⟩) (by assumption) ?_
                          rotate_left
                          · (intro w hSw; (try dsimp only at hSw); go_simp; (try with_reducible rfl))
                          (try simp only [List.getElem_toArray, List.getElem_cons_succ, List.getElem_cons_zero, Act.put, List.setIfInBounds_toArray, List.set_cons_zero, List.set_cons_succ])
                          refine wpAnyH_ready (rs := [3]) (by kernel_rfl) (by simp) ?_
                          refine AllReadyH.cons (o := _) rfl (fun K hK => ?_) ?_
                          · (go_simp; go_at_call 22; refine Calls.mono (states_any _ (HT5.out.gr.below hHeld.2.out)) ?_; rintro r w62 ⟨rfl, hw62⟩; obtain rfl := hw62.symm; clear hw62)
                            (try go_wp2_with fail)
                            refine hK.out _ _ ?_ (fun hHeld => ?_)
                            · exact hHeld
                            clear hK K
                            (try simp only [List.getElem_toArray, List.getElem_cons_succ, List.getElem_cons_zero, Act.put, List.setIfInBounds_toArray, List.set_cons_zero, List.set_cons_succ])
                            refine wpAnyH_take (i := 6) (oi := _) (v := ?_) rfl (by kernel_rfl) (by kernel_rfl) (by kernel_rfl) (fun _ _ _ h => h) (Or.inl ⟨by rfl, ?_⟩) (by assumption) ?_
                            rotate_left
                            · (intro w hSw; (try dsimp only at hSw); go_simp; (try with_reducible rfl))
                            (try simp only [List.getElem_toArray, List.getElem_cons_succ, List.getElem_cons_zero, Act.put, List.setIfInBounds_toArray, List.set_cons_zero, List.set_cons_succ])
                            refine wpAnyH_take (i := 7) (oi := _) (v := ?_) rfl (by kernel_rfl) (by kernel_rfl) (by kernel_rfl) (fun _ _ _ h => h) (Or.inl ⟨by rfl, ?_⟩) (by assumption) ?_
                            rotate_left
                            · (intro w hSw; (try dsimp only at hSw); go_simp; (try with_reducible rfl))
                            (try simp only [List.getElem_toArray, List.getElem_cons_succ, List.getElem_cons_zero, Act.put, List.setIfInBounds_toArray, List.set_cons_zero, List.set_cons_succ])
                            refine wpAnyH_take (i := 8) (oi := _) (v := ?_) rfl (by kernel_rfl) (by kernel_rfl) (by kernel_rfl) (fun _ _ _ h => h) (Or.inl ⟨by rfl, ?_⟩) (by assumption) ?_
                            rotate_left
                            · (intro w hSw; (try dsimp only at hSw); go_simp; (try with_reducible rfl))
                            (try simp only [List.getElem_toArray, List.getElem_cons_succ, List.getElem_cons_zero, Act.put, List.setIfInBounds_toArray, List.set_cons_zero, List.set_cons_succ])
                            refine wpAnyH_take (i := 9) (oi := _) (v := ?_) rfl (by kernel_rfl) (by kernel_rfl) (by kernel_rfl) (fun _ _ _ h => h) (Or.inl ⟨by rfl, ?_⟩) (by assumption) ?_
                            rotate_left
                            · (intro w hSw; (try dsimp only at hSw); go_simp; (try with_reducible rfl))
                            (try simp only [List.getElem_toArray, List.getElem_cons_succ, List.getElem_cons_zero, Act.put, List.setIfInBounds_toArray, List.set_cons_zero, List.set_cons_succ])
                            refine wpAnyH_take (i := 11) (oi := _) (v := ?_) rfl (by kernel_rfl) (by kernel_rfl) (by kernel_rfl) (fun _ _ _ h => h) (Or.inl ⟨by rfl, ?_⟩) (by assumption) ?_
                            rotate_left
                            · (intro w hSw; (try dsimp only at hSw); go_simp; (try with_reducible rfl))
                            (try simp only [List.getElem_toArray, List.getElem_cons_succ, List.getElem_cons_zero, Act.put, List.setIfInBounds_toArray, List.set_cons_zero, List.set_cons_succ])
                            refine wpAnyH_take (i := 12) (oi := _) (v := ?_) rfl (by kernel_rfl) (by kernel_rfl) (by kernel_rfl) (fun _ _ _ h => h) (Or.inl ⟨by rfl, ?_⟩) (by assumption) ?_
                            rotate_left
                            · (intro w hSw; (try dsimp only at hSw); go_simp; (try with_reducible rfl))
                            (try simp only [List.getElem_toArray, List.getElem_cons_succ, List.getElem_cons_zero, Act.put, List.setIfInBounds_toArray, List.set_cons_zero, List.set_cons_succ])
                            refine wpAnyH_ready (rs := [10]) (by kernel_rfl) (by simp) ?_
                            refine AllReadyH.cons (o := _) rfl (fun K hK => ?_) ?_
                            · (go_simp; go_at_call 23; refine Calls.mono (labels_any _ (HT5.out.gr.below hHeld.2.out)) ?_; rintro r w63 ⟨rfl, hw63⟩; obtain rfl := hw63.symm; clear hw63)
                              (try go_wp2_with fail)
                              refine hK.out _ _ ?_ (fun hHeld => ?_)
                              · exact hHeld
                              clear hK K
                              (try simp only [List.getElem_toArray, List.getElem_cons_succ, List.getElem_cons_zero, Act.put, List.setIfInBounds_toArray, List.set_cons_zero, List.set_cons_succ])
                              refine wpAnyH_take (i := 13) (oi := _) (v := ?_) rfl (by kernel_rfl) (by kernel_rfl) (by kernel_rfl) (fun _ _ _ h => h) (Or.inl ⟨by rfl, ?_⟩) (by assumption) ?_
                              rotate_left
                              · (intro w hSw; (try dsimp only at hSw); go_simp; (try with_reducible rfl))
                              (try simp only [List.getElem_toArray, List.getElem_cons_succ, List.getElem_cons_zero, Act.put, List.setIfInBounds_toArray, List.set_cons_zero, List.set_cons_succ])
                              refine wpAnyH_take (i := 14) (oi := _) (v := ?_) rfl (by kernel_rfl) (by kernel_rfl) (by kernel_rfl) (fun _ _ _ h => h) (Or.inl ⟨by rfl, ?_⟩) (by assumption) ?_
                              rotate_left
                              · (intro w hSw; (try dsimp only at hSw); go_simp; (try with_reducible rfl))
                              (try simp only [List.getElem_toArray, List.getElem_cons_succ, List.getElem_cons_zero, Act.put, List.setIfInBounds_toArray, List.set_cons_zero, List.set_cons_succ])
                              refine wpAnyH_take (i := 15) (oi := _) (v := ?_) rfl (by kernel_rfl) (by kernel_rfl) (by kernel_rfl) (fun _ _ _ h => h) (Or.inl ⟨by rfl, ?_⟩) (by assumption) ?_
                              rotate_left
                              · (intro w hSw; (try dsimp only at hSw); go_simp; (try with_reducible rfl))
                              (try simp only [List.getElem_toArray, List.getElem_cons_succ, List.getElem_cons_zero, Act.put, List.setIfInBounds_toArray, List.set_cons_zero, List.set_cons_succ])
                              refine wpAnyH_take (i := 16) (oi := _) (v := ?_) rfl (by kernel_rfl) (by kernel_rfl) (by kernel_rfl) (fun _ _ _ h => h) (Or.inl ⟨by rfl, ?_⟩) (by assumption) ?_
                              rotate_left
                              · (intro w hSw; (try dsimp only at hSw); go_simp; (try with_reducible rfl))
                              (try simp only [List.getElem_toArray, List.getElem_cons_succ, List.getElem_cons_zero, Act.put, List.setIfInBounds_toArray, List.set_cons_zero, List.set_cons_succ])
                              refine wpAnyH_take (i := 18) (oi := _) (v := ?_) rfl (by kernel_rfl) (by kernel_rfl) (by kernel_rfl) (fun _ _ _ h => h) (Or.inl ⟨by rfl, ?_⟩) (by assumption) ?_
                              rotate_left
                              · (intro w hSw; (try dsimp only at hSw); go_simp; (try with_reducible rfl))
                              (try simp only [List.getElem_toArray, List.getElem_cons_succ, List.getElem_cons_zero, Act.put, List.setIfInBounds_toArray, List.set_cons_zero, List.set_cons_succ])
                              refine wpAnyH_take (i := 19) (oi := _) (v := ?_) rfl (by kernel_rfl) (by kernel_rfl) (by kernel_rfl) (fun _ _ _ h => h) (Or.inl ⟨by rfl, ?_⟩) (by assumption) ?_
                              rotate_left
                              · (intro w hSw; (try dsimp only at hSw); go_simp; (try with_reducible rfl))
                              (try simp only [List.getElem_toArray, List.getElem_cons_succ, List.getElem_cons_zero, Act.put, List.setIfInBounds_toArray, List.set_cons_zero, List.set_cons_succ])
                              refine wpAnyH_ready (rs := [17]) (by kernel_rfl) (by simp) ?_
                              refine AllReadyH.cons (o := _) rfl (fun K hK => ?_) ?_
                              · (go_simp; go_at_call 24; refine Calls.mono (start_any _ (HT5.out.gr.below hHeld.2.out)) ?_; rintro r w64 ⟨rfl, hw64⟩; obtain rfl := hw64.symm; clear hw64)
                                (try go_wp2_with fail)
                                refine hK.out _ _ ?_ (fun hHeld => ?_)
                                · exact hHeld
                                clear hK K
                                (try simp only [List.getElem_toArray, List.getElem_cons_succ, List.getElem_cons_zero, Act.put, List.setIfInBounds_toArray, List.set_cons_zero, List.set_cons_succ])
                                refine wpAnyH_take (i := 20) (oi := _) (v := ?_) rfl (by kernel_rfl) (by kernel_rfl) (by kernel_rfl) (fun _ _ _ h => h) (Or.inl ⟨by rfl, ?_⟩) (by assumption) ?_
                                rotate_left
                                · (intro w hSw; (try dsimp only at hSw); go_simp; (try with_reducible rfl))
                                (try simp only [List.getElem_toArray, List.getElem_cons_succ, List.getElem_cons_zero, Act.put, List.setIfInBounds_toArray, List.set_cons_zero, List.set_cons_succ])
                                refine wpAnyH_take (i := 21) (oi := _) (v := ?_) rfl (by kernel_rfl) (by kernel_rfl) (by kernel_rfl) (fun _ _ _ h => h) (Or.inl ⟨by rfl, ?_⟩) (by assumption) ?_
                                rotate_left
                                · (intro w hSw; (try dsimp only at hSw); go_simp; (try with_reducible rfl))
                                (try simp only [List.getElem_toArray, List.getElem_cons_succ, List.getElem_cons_zero, Act.put, List.setIfInBounds_toArray, List.set_cons_zero, List.set_cons_succ])
                                refine wpAnyH_take (i := 22) (oi := _) (v := ?_) rfl (by kernel_rfl) (by kernel_rfl) (by kernel_rfl) (fun _ _ _ h => h) (Or.inl ⟨by rfl, ?_⟩) (by assumption) ?_
                                rotate_left
                                · (intro w hSw; (try dsimp only at hSw); go_simp; (try with_reducible rfl))
                                (try simp only [List.getElem_toArray, List.getElem_cons_succ, List.getElem_cons_zero, Act.put, List.setIfInBounds_toArray, List.set_cons_zero, List.set_cons_succ])
                                refine wpAnyH_take (i := 23) (oi := _) (v := ?_) rfl (by kernel_rfl) (by kernel_rfl) (by kernel_rfl) (fun _ _ _ h => h) (Or.inl ⟨by rfl, ?_⟩) (by assumption) ?_
                                rotate_left
                                · (intro w hSw; (try dsimp only at hSw); go_simp; (try with_reducible rfl))
                                (try simp only [List.getElem_toArray, List.getElem_cons_succ, List.getElem_cons_zero, Act.put, List.setIfInBounds_toArray, List.set_cons_zero, List.set_cons_succ])
                                refine wpAnyH_take (i := 25) (oi := _) (v := ?_) rfl (by kernel_rfl) (by kernel_rfl) (by kernel_rfl) (fun _ _ _ h => h) (Or.inl ⟨by rfl, ?_⟩) (by assumption) ?_
                                rotate_left
                                · (intro w hSw; (try dsimp only at hSw); go_simp; (try with_reducible rfl))
                                (try simp only [List.getElem_toArray, List.getElem_cons_succ, List.getElem_cons_zero, Act.put, List.setIfInBounds_toArray, List.set_cons_zero, List.set_cons_succ])
                                refine wpAnyH_take (i := 26) (oi := _) (v := ?_) rfl (by kernel_rfl) (by kernel_rfl) (by kernel_rfl) (fun _ _ _ h => h) (Or.inl ⟨by rfl, ?_⟩) (by assumption) ?_
                                rotate_left
                                · (intro w hSw; (try dsimp only at hSw); go_simp; (try with_reducible rfl))
                                (try simp only [List.getElem_toArray, List.getElem_cons_succ, List.getElem_cons_zero, Act.put, List.setIfInBounds_toArray, List.set_cons_zero, List.set_cons_succ])
                                refine wpAnyH_ready (rs := [24]) (by kernel_rfl) (by simp) ?_
                                refine AllReadyH.cons (o := _) rfl (fun K hK => ?_) ?_
                                · (go_simp; go_at_call 26; refine Calls.mono (edges_any _ (HT5.out.gr.below hHeld.2.out)) ?_; rintro r w65 ⟨u65, rfl, hO65, hb65⟩; have hq65 := hO65.has; obtain ⟨a65, k65, hs65⟩ := hasE_shape hq65; have HQ65 : Hid _ := And.intro trivial hq65; generalize hgl65 : List.length _ = L65 at hs65; subst hs65; clear hO65 hq65 hgl65)
                                  (try go_wp2_with fail)
                                  refine hK.out _ _ ?_ (fun hHeld => ?_)
                                  · exact rg_up4 hb65 hHeld
                                  clear hK K
                                  (try simp only [List.getElem_toArray, List.getElem_cons_succ, List.getElem_cons_zero, Act.put, List.setIfInBounds_toArray, List.set_cons_zero, List.set_cons_succ])
                                  clear hb65
                                  refine wpAnyH_ready (rs := [27]) (by kernel_rfl) (by simp) ?_
                                  refine AllReadyH.cons (o := _) rfl (fun K hK => ?_) ?_
                                  · (go_simp; go_at_call 25; refine Calls.mono (BEdges.same_b _ _ _ _ (nf_big HT5.out.gr) HQ65.out.2 (HT5.out.te.below hHeld.2.out)) ?_; rintro r w66 ⟨rfl, hb66⟩)
                                    (try go_wp2_with fail)
                                    refine hK.out _ _ ?_ (fun hHeld => ?_)
                                    · exact rg_up4 hb66 hHeld
                                    clear hK K
                                    (try simp only [List.getElem_toArray, List.getElem_cons_succ, List.getElem_cons_zero, Act.put, List.setIfInBounds_toArray, List.set_cons_zero, List.set_cons_succ])
                                    clear hb66
                                    refine wpAnyH_take (i := 28) (oi := _) (v := ?_) rfl (by kernel_rfl) (by kernel_rfl) (by kernel_rfl) (fun _ _ _ h => h) (Or.inl ⟨by rfl, ?_⟩) (by assumption) ?_
                                    rotate_left
                                    · (intro w hSw; (try dsimp only at hSw); go_simp; (try with_reducible rfl))
                                    (try simp only [List.getElem_toArray, List.getElem_cons_succ, List.getElem_cons_zero, Act.put, List.setIfInBounds_toArray, List.set_cons_zero, List.set_cons_succ])
                                    refine wpAnyH_take (i := 29) (oi := _) (v := ?_) rfl (by kernel_rfl) (by kernel_rfl) (by kernel_rfl) (fun _ _ _ h => h) (Or.inl ⟨by rfl, ?_⟩) (by assumption) ?_
                                    rotate_left
                                    · (intro w hSw; (try dsimp only at hSw); go_simp; (try with_reducible rfl))
                                    (try simp only [List.getElem_toArray, List.getElem_cons_succ, List.getElem_cons_zero, Act.put, List.setIfInBounds_toArray, List.set_cons_zero, List.set_cons_succ])
                                    refine wpAnyH_take (i := 30) (oi := _) (v := ?_) rfl (by kernel_rfl) (by kernel_rfl) (by kernel_rfl) (fun _ _ _ h => h) (Or.inl ⟨by rfl, ?_⟩) (by assumption) ?_
                                    rotate_left
                                    · (intro w hSw; (try dsimp only at hSw); go_simp; (try with_reducible rfl))
                                    (try simp only [List.getElem_toArray, List.getElem_cons_succ, List.getElem_cons_zero, Act.put, List.setIfInBounds_toArray, List.set_cons_zero, List.set_cons_succ])
                                    refine wpAnyH_take (i := 32) (oi := _) (v := ?_) rfl (by kernel_rfl) (by kernel_rfl) (by kernel_rfl) (fun _ _ _ h => h) (Or.inl ⟨by rfl, ?_⟩) (by assumption) ?_
                                    rotate_left
                                    · (intro w hSw; (try dsimp only at hSw); go_simp; (try with_reducible rfl))
                                    (try simp only [List.getElem_toArray, List.getElem_cons_succ, List.getElem_cons_zero, Act.put, List.setIfInBounds_toArray, List.set_cons_zero, List.set_cons_succ])
                                    refine wpAnyH_ready (rs := [31]) (by kernel_rfl) (by simp) ?_
                                    refine AllReadyH.cons (o := _) rfl (fun K hK => ?_) ?_
                                    · (go_simp; go_at_call 27; refine Calls.mono (reach_any _ (HT5.out.gr.below hHeld.2.out)) ?_; rintro r w67 ⟨u67, ms, rfl, hO67, hml67, hms67, hb67⟩; have hq67 := hO67.has; rw [marks_same HM.out.1 hml67 HM.out.2.1 hms67] at hq67; obtain ⟨a67, k67, hs67⟩ := hasI_shape hq67; have HQ67 : Hid _ := And.intro trivial hq67; generalize hgl67 : List.length _ = L67 at hs67; subst hs67; clear hO67 hq67 hgl67 hms67 hml67)
                                      (try go_wp2_with fail)
                                      refine hK.out _ _ ?_ (fun hHeld => ?_)
                                      · exact rg_up4 hb67 hHeld
                                      clear hK K
                                      (try simp only [List.getElem_toArray, List.getElem_cons_succ, List.getElem_cons_zero, Act.put, List.setIfInBounds_toArray, List.set_cons_zero, List.set_cons_succ])
                                      clear hb67
                                      refine wpAnyH_ready (rs := [33]) (by kernel_rfl) (by simp) ?_
                                      refine AllReadyH.cons (o := _) rfl (fun K hK => ?_) ?_
                                      · (go_simp; go_at_call 19; refine Calls.mono (sameInts_any _ _ _ _ (marks_big HM.out.1 HT5.out.gr) HQ67.out.2 (HE3.out.2.1.below (bel5 hHeld.2.out HB.out))) ?_; rintro r w68 ⟨rfl, hb68⟩)
                                        (try go_wp2_with fail)
                                        refine hK.out _ _ ?_ (fun hHeld => ?_)
                                        · exact rg_up4 hb68 hHeld
                                        clear hK K
                                        (try simp only [List.getElem_toArray, List.getElem_cons_succ, List.getElem_cons_zero, Act.put, List.setIfInBounds_toArray, List.set_cons_zero, List.set_cons_succ])
                                        clear hb68
                                        refine wpAnyH_take (i := 34) (oi := _) (v := ?_) rfl (by kernel_rfl) (by kernel_rfl) (by kernel_rfl) (fun _ _ _ h => h) (Or.inl ⟨by rfl, ?_⟩) (by assumption) ?_
                                        rotate_left
                                        · (intro w hSw; (try dsimp only at hSw); go_simp; (try with_reducible rfl))
                                        (try simp only [List.getElem_toArray, List.getElem_cons_succ, List.getElem_cons_zero, Act.put, List.setIfInBounds_toArray, List.set_cons_zero, List.set_cons_succ])
                                        refine wpAnyH_take (i := 35) (oi := _) (v := ?_) rfl (by kernel_rfl) (by kernel_rfl) (by kernel_rfl) (fun _ _ _ h => h) (Or.inl ⟨by rfl, ?_⟩) (by assumption) ?_
                                        rotate_left
                                        · (intro w hSw; (try dsimp only at hSw); go_simp; (try with_reducible rfl))
                                        (try simp only [List.getElem_toArray, List.getElem_cons_succ, List.getElem_cons_zero, Act.put, List.setIfInBounds_toArray, List.set_cons_zero, List.set_cons_succ])
                                        refine wpAnyH_take (i := 36) (oi := _) (v := ?_) rfl (by kernel_rfl) (by kernel_rfl) (by kernel_rfl) (fun _ _ _ h => h) (Or.inl ⟨by rfl, ?_⟩) (by assumption) ?_
                                        rotate_left
                                        · (intro w hSw; (try dsimp only at hSw); go_simp; (try with_reducible rfl))
                                        (try simp only [List.getElem_toArray, List.getElem_cons_succ, List.getElem_cons_zero, Act.put, List.setIfInBounds_toArray, List.set_cons_zero, List.set_cons_succ])
                                        refine wpAnyH_take (i := 38) (oi := _) (v := ?_) rfl (by kernel_rfl) (by kernel_rfl) (by kernel_rfl) (fun _ _ _ h => h) (Or.inl ⟨by rfl, ?_⟩) (by assumption) ?_
                                        rotate_left
                                        · (intro w hSw; (try dsimp only at hSw); go_simp; (try with_reducible rfl))
                                        (try simp only [List.getElem_toArray, List.getElem_cons_succ, List.getElem_cons_zero, Act.put, List.setIfInBounds_toArray, List.set_cons_zero, List.set_cons_succ])
                                        refine wpAnyH_ready (rs := [37]) (by kernel_rfl) (by simp) ?_
                                        refine AllReadyH.cons (o := _) rfl (fun K hK => ?_) ?_
                                        · (go_simp; go_at_call 28; refine Calls.mono (degree_any _ (HT5.out.gr.below hHeld.2.out)) ?_; rintro r w69 ⟨rfl, hb69⟩; rw [← HM.out.2.2])
                                          (try go_wp2_with fail)
                                          refine hK.out _ _ ?_ (fun hHeld => ?_)
                                          · exact rg_up4 hb69 hHeld
                                          clear hK K
                                          (try simp only [List.getElem_toArray, List.getElem_cons_succ, List.getElem_cons_zero, Act.put, List.setIfInBounds_toArray, List.set_cons_zero, List.set_cons_succ])
                                          refine wpAnyH_take (i := 39) (oi := _) (v := ?_) rfl (by kernel_rfl) (by kernel_rfl) (by kernel_rfl) (fun _ _ _ h => h) (Or.inl ⟨by rfl, ?_⟩) (by assumption) ?_
                                          rotate_left
                                          · (intro w hSw; (try dsimp only at hSw); go_simp; (try with_reducible rfl))
                                          (try simp only [List.getElem_toArray, List.getElem_cons_succ, List.getElem_cons_zero, Act.put, List.setIfInBounds_toArray, List.set_cons_zero, List.set_cons_succ])
                                          refine wpAnyH_take (i := 40) (oi := _) (v := ?_) rfl (by kernel_rfl) (by kernel_rfl) (by kernel_rfl) (fun _ _ _ h => h) (Or.inl ⟨by rfl, ?_⟩) (by assumption) ?_
                                          rotate_left
                                          · (intro w hSw; (try dsimp only at hSw); go_simp; (try with_reducible rfl))
                                          (try simp only [List.getElem_toArray, List.getElem_cons_succ, List.getElem_cons_zero, Act.put, List.setIfInBounds_toArray, List.set_cons_zero, List.set_cons_succ])
                                          refine wpAnyH_take (i := 41) (oi := _) (v := ?_) rfl (by kernel_rfl) (by kernel_rfl) (by kernel_rfl) (fun _ _ _ h => h) (Or.inl ⟨by rfl, ?_⟩) (by assumption) ?_
                                          rotate_left
                                          · (intro w hSw; (try dsimp only at hSw); go_simp; (try with_reducible rfl))
                                          (try simp only [List.getElem_toArray, List.getElem_cons_succ, List.getElem_cons_zero, Act.put, List.setIfInBounds_toArray, List.set_cons_zero, List.set_cons_succ])
                                          refine wpAnyH_done (by kernel_rfl) ?_ _
                                          (try go_simp)
                                          have HF : Hid _ := bel5 hHeld.2.out HT5.out.b
                                          go_wp2_with fail
                                          go_ret
                                          exact ⟨rfl, HF.out⟩
                                        exact AllReadyH.nil
                                      exact AllReadyH.nil
                                    exact AllReadyH.nil
                                  exact AllReadyH.nil
                                exact AllReadyH.nil
                              exact AllReadyH.nil
                            exact AllReadyH.nil
                          exact AllReadyH.nil
                        exact AllReadyH.nil
          exact AllReadyH.nil
        exact AllReadyH.nil
      exact AllReadyH.nil
end Go.Proofs.YtgnfommndoodmaaGreatDoor
