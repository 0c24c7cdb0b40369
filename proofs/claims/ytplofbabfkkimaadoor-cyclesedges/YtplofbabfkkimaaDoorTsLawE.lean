/- CyclesEdges as a call. -/
import Derived.Test.YtplofbabfkkimaaDoorPart13
import Derived.Deep.RegionHeld3
namespace Go.Proofs.YtplofbabfkkimaaDoor.Ts
open Go.RowKit Go.Maps
attribute [local go_sem ↓] Go.wp_at_zero Go.wp_at_succ
theorem two_more (w : World) (o o' : Obj) : ((w.alloc o).alloc o').heap.size = w.heap.size + 2 := by simp
set_option linter.unusedSimpArgs false in
set_option maxRecDepth 100000 in
set_option maxHeartbeats 8000000 in
theorem lawE_in (hS : SortOk 1000000) (n : Nat) (k s : Int) (v : Value) (es : List Sy.Ed) (a : Addr) (w : World) (hA : PAl w) (hE : Sent w 0 a) (hv : HasE w v es) (hlen : es.length ≤ 300) (hn : n ≤ 60) (hq : Sy.right n k s es = true) :
    Calls Tryd.prog 4 #[sysV n k s v] w fun r w' => r = .returned (.bool true) ∧ Below w.heap.size w w' := by
  have hvs := hv
  obtain ⟨ao, cap, rfl, hcap, hH⟩ := hvs
  obtain ⟨L, hL⟩ : ∃ L, L = es.length := ⟨_, rfl⟩
  rw [← hL] at hcap hlen ⊢
  obtain ⟨w1, hw1⟩ : ∃ w1, w1 = w.alloc (.cells #[.int .i64 n, .int .i64 k, .int .i64 s, .slice ao L cap] 24) := ⟨_, rfl⟩
  have hb1 : Below w.heap.size w w1 := by rw [hw1]; exact (Below.refl _ _).alloc (Nat.le_refl _) _
  have hg1 : w1.heap[w.heap.size]? = some (.cells #[.int .i64 n, .int .i64 k, .int .i64 s, .slice ao L cap] 24 (0, 0)) := by rw [hw1]; exact heap_alloc_new w _
  have hC := collapse_ok hS n k s (.slice ao L cap) es a w1 (hE.below hb1) (by rw [hL]; exact hH.below hb1) (by omega) (by omega) hq
  unfold sysV at hC ⊢
  have hH' : BEdges.Has w (.slice ao L cap) es := by rw [hL]; exact hH
  have HV : Hid _ := And.intro hH' (And.intro hL (And.intro hA hq))
  have H1 : Hid _ := And.intro hw1 (And.intro hb1 (And.intro hg1 hC))
  obtain ⟨x0, x1, x2, x3⟩ := four_cells hg1
  have q1 : ¬ (300 : Int) < (L : Int) := by omega
  have q2 : ¬ (60 : Int) < (n : Int) := by omega
  clear hA hE hv hH hH' hcap hL hw1 hb1 hg1 hq hC
  go_enter Tryd.func4, Tryd.ntmps4
  go_upto_region 1 with fail
  rw [← H1.out.1]
  go_wp2_with fail
  refine Calls.mono H1.out.2.2.2 ?_
  rintro r w2 ⟨ue, u, cl, rfl, hCl, hOe, hOc, hb2⟩
  obtain ⟨au, cu, hu⟩ := row_shape hOc
  obtain ⟨ae, ce, hue⟩ := row_shape hOe
  have hcn : (natI cl).length = n := by simp [natI, hCl.len]
  rw [hcn] at hu
  obtain ⟨M, hM⟩ : ∃ M, M = (Sy.nf (btw cl es)).length := ⟨_, rfl⟩
  rw [← hM] at hue
  subst hu
  subst hue
  have hMl : M ≤ 10000 := by have := (right_parts (small_right hCl HV.out.2.2.2)).2.2.1; have := Sy.nf_len (btw cl es); omega
  have H2 : Hid _ := And.intro hCl (And.intro hOe (And.intro hOc (And.intro hb2 hM)))
  have hg2 := (hb2.block _ (t_lt H1.out.2.2.1)).trans H1.out.2.2.1
  have b2 := bel12 hb2 H1.out.2.1
  obtain ⟨tg, htg⟩ : ∃ t : Nat, t = tog cl := ⟨_, rfl⟩
  obtain ⟨st, hst⟩ : ∃ z, z = sta n cl s := ⟨_, rfl⟩
  rw [← htg, ← hst]
  obtain ⟨w3, hw3⟩ : ∃ w3, w3 = w2.alloc (.cells #[.int .i64 (tg : Int), .int .i64 k, .int .i64 st, .slice ae M ce] 24) := ⟨_, rfl⟩
  have hb3 : Below w2.heap.size w2 w3 := by rw [hw3]; exact (Below.refl _ _).alloc (Nat.le_refl _) _
  have hg3 : w3.heap[w2.heap.size]? = some (.cells #[.int .i64 (tg : Int), .int .i64 k, .int .i64 st, .slice ae M ce] 24 (0, 0)) := by rw [hw3]; exact heap_alloc_new w2 _
  have hg23 := (hb3.block _ (t_lt hg2)).trans hg2
  have b3 := bel12 hb3 b2
  have hlt2 := t_lt hg2
  have H3 : Hid _ := And.intro hw3 (And.intro hb3 (And.intro hg3 (And.intro hg23 (And.intro b3 (And.intro hlt2 (And.intro htg (And.intro hst b2)))))))
  clear hCl hOe hOc hb2 hM hcn x0 x1 x2 x3 hw3 hb3 b3 htg hst b2 hlt2 hg2
  obtain ⟨x0, x1, x2, x3⟩ := four_cells hg23
  obtain ⟨t0, t1, t2, t3⟩ := four_cells hg3
  clear hg3 hg23
  go_upto_region 4 with fail
  rw [← H3.out.1]
  have hmk := makeB M (by omega) w3
  have hA0 := arr_new 4 (.bool false) rfl M w3
  obtain ⟨w4, hw4⟩ : ∃ w4, w4 = w3.alloc (.cells (madeV (.bool false) M) 4) := ⟨_, rfl⟩
  rw [← hw4] at hmk hA0
  rw [bl_false] at hA0
  have hg4 := (hA0.bl.block _ (t_lt H3.out.2.2.2.1)).trans H3.out.2.2.2.1
  have ht4 := (hA0.bl.block _ (t_lt H3.out.2.2.1)).trans H3.out.2.2.1
  have H4 : Hid _ := And.intro hA0 (And.intro hg4 ht4)
  clear hA0 hw4 hg4 ht4
  go_upto_region 7 with fail
  clear hmk x0 x1 x2 x3 t0 t1 t2 t3
  obtain ⟨x0, x1, x2, x3⟩ := four_cells H4.out.2.1
  go_wp2_with fail
  obtain ⟨gi, hgi⟩ : ∃ gi, gi = w3.heap.size := ⟨_, rfl⟩
  have hAg := H4.out.1
  rw [← hgi] at hAg ⊢
  have HG : Hid _ := And.intro hAg hgi
  clear hAg hgi x0 x1 x2 x3
  go_loopg [50] L (fun q s50 wx => ∃ i : Nat, q = L - i ∧ i ≤ L ∧ s50 = .int .i64 i ∧ Arr 4 w3 wx gi (bl M (uB (Sy.nf (btw cl es)) cl (es.take i))))
  case atStart => exact ⟨0, rfl, Nat.zero_le _, rfl, by have h9 := HG.out.1; rw [bl_congr (v := uB (Sy.nf (btw cl es)) cl (es.take 0)) (fun p _ => by simp [uB])] at h9; exact h9⟩
  case round =>
    obtain ⟨i, rfl, hi, rfl, hA⟩ := hrel
    by_cases hlt : i < L
    · obtain ⟨⟨e1, e2, e3⟩, hz⟩ : ∃ e, es[i]? = some e := ⟨es[i]'(by have := HV.out.2.1; omega), List.getElem?_eq_getElem _⟩
      have hin := (right_parts HV.out.2.2.2).2.2.2.2.2 _ (List.mem_of_getElem? hz)
      simp only at hin
      obtain ⟨p, rfl⟩ : ∃ p : Nat, e1 = (p : Int) := ⟨e1.toNat, by omega⟩
      obtain ⟨r3, rfl⟩ : ∃ p : Nat, e3 = (p : Int) := ⟨e3.toNat, by omega⟩
      have hpn : p < n := by omega
      have hrn : r3 < n := by omega
      have hcl := H2.out.1.len
      have gp : cl[p]? = some (cl[p]'(by omega)) := List.getElem?_eq_getElem _
      have gr : cl[r3]? = some (cl[r3]'(by omega)) := List.getElem?_eq_getElem _
      have hy1 := cla_at gp
      have hy3 := cla_at gr
      have b23 : Below w2.heap.size w2 wr := H3.out.2.1.trans (hA.bl.mono H3.out.2.1.size)
      have b0 : Below w.heap.size w wr := H3.out.2.2.2.2.2.2.2.2.trans (b23.mono H3.out.2.2.2.2.2.2.2.2.size)
      have hOr := own_up4 H2.out.2.2.1 b23
      obtain ⟨gc, cc, hc1, c1⟩ := own_cell hOr (natI_at gp)
      obtain ⟨gc', cc', hc2, c2⟩ := own_cell hOr (natI_at gr)
      simp only [Value.slice.injEq] at hc1 hc2
      obtain ⟨rfl, -, -⟩ := hc1
      obtain ⟨hc3, -, -⟩ := hc2
      obtain rfl : gc = gc' := by injection hc3 with h; injection h
      clear hc3
      rw [← hy1] at c1
      rw [← hy3] at c2
      obtain ⟨a4, hae, d0, d1, d2⟩ := edge_at (HV.out.1.below b0) hz
      subst hae
      simp only at d0 d1 d2
      obtain ⟨y1, hY1⟩ : ∃ y, y = cla cl (p : Int) := ⟨_, rfl⟩
      obtain ⟨y3, hY3⟩ : ∃ y, y = cla cl (r3 : Int) := ⟨_, rfl⟩
      rw [← hY1] at c1
      rw [← hY3] at c2
      have hOn : Ts.onto cl ((p : Int), e2, (r3 : Int)) = (y1, e2, y3) := by unfold Ts.onto; rw [hY1, hY3]
      have hKp : keep cl ((p : Int), e2, (r3 : Int)) = !(decide (e2 = 0) && decide (y1 = y3)) := by unfold keep; rw [hY1, hY3]
      obtain ⟨w5, hw5⟩ : ∃ w5, w5 = wr.alloc (.cells #[.int .i64 p, .int .i64 e2, .int .i64 r3] 36) := ⟨_, rfl⟩
      have hb5 : Below wr.heap.size wr w5 := by rw [hw5]; exact (Below.refl _ _).alloc (Nat.le_refl _) _
      have hx5 : w5.heap[wr.heap.size]? = some (.cells #[.int .i64 p, .int .i64 e2, .int .i64 r3] 36 (0, 0)) := by rw [hw5]; exact heap_alloc_new wr _
      have hs5 : w5.heap.size = wr.heap.size + 1 := by rw [hw5]; simp
      have s0 : w5.cell? ⟨wr.heap.size, 0, none⟩ = some (.int .i64 p) := cell0_of hx5 rfl
      have s1 : w5.cell? ⟨wr.heap.size, 1, none⟩ = some (.int .i64 e2) := cell0_of hx5 rfl
      have s2 : w5.cell? ⟨wr.heap.size, 2, none⟩ = some (.int .i64 r3) := cell0_of hx5 rfl
      have c1' := cell_up c1 hb5
      have c2' := cell_up c2 hb5
      have HS : Hid (∀ W, Below w5.heap.size w5 W → (W.cell? ⟨wr.heap.size, 0, none⟩ = some (.int .i64 p) ∧ W.cell? ⟨wr.heap.size, 1, none⟩ = some (.int .i64 e2) ∧ W.cell? ⟨wr.heap.size, 2, none⟩ = some (.int .i64 r3) ∧ W.cell? ⟨gc, p, none⟩ = some (.int .i64 y1) ∧ W.cell? ⟨gc, r3, none⟩ = some (.int .i64 y3))) := (fun W hb => ⟨cell_up s0 hb, cell_up s1 hb, cell_up s2 hb, cell_up c1' hb, cell_up c2' hb⟩ : ∀ W, Below w5.heap.size w5 W → (W.cell? ⟨wr.heap.size, 0, none⟩ = some (.int .i64 p) ∧ W.cell? ⟨wr.heap.size, 1, none⟩ = some (.int .i64 e2) ∧ W.cell? ⟨wr.heap.size, 2, none⟩ = some (.int .i64 r3) ∧ W.cell? ⟨gc, p, none⟩ = some (.int .i64 y1) ∧ W.cell? ⟨gc, r3, none⟩ = some (.int .i64 y3)))
      have p0 : (0 : Int) ≤ (i : Int) := by omega
      have p1 : (i : Int) < (L : Int) := by omega
      have p2 : (0 : Int) ≤ (p : Int) := by omega
      have p3 : (p : Int) < (n : Int) := by omega
      have p4 : (0 : Int) ≤ (r3 : Int) := by omega
      have p5 : (r3 : Int) < (n : Int) := by omega
      have p6 : IntKind.i64.wrap ((i : Int) + 1) = (i : Int) + 1 := by rw [IntKind.wrap_i64]; omega
      have HB : Hid _ := And.intro hA (And.intro b23 (And.intro b0 (And.intro hz (And.intro hOn (And.intro hKp (And.intro hw5 (And.intro hb5 hs5)))))))
      clear hA b23 b0 hOr hz hOn hKp hw5 hb5 hs5 hin hpn hrn hcl gp gr hy1 hy3 hY1 hY3 c1 c2 c1' c2' s0 s1 s2 hx5
      go_upto_region 10 with fail
      rw [← HB.out.2.2.2.2.2.2.1]
      refine wp_region_held_drew (S := (fun W => W.cell? ⟨wr.heap.size, 0, none⟩ = some (.int .i64 p) ∧ W.cell? ⟨wr.heap.size, 1, none⟩ = some (.int .i64 e2) ∧ W.cell? ⟨wr.heap.size, 2, none⟩ = some (.int .i64 r3) ∧ W.cell? ⟨gc, p, none⟩ = some (.int .i64 y1) ∧ W.cell? ⟨gc, r3, none⟩ = some (.int .i64 y3))) (by kernel_rfl) ?_ (fun hHeld => ?_)
      · exact HS.out _ ((Below.refl _ _).drew)
      refine wpAnyH_take (i := 0) (oi := _) (v := ?_) rfl (by kernel_rfl) (by kernel_rfl) (by kernel_rfl) (fun _ _ _ h => h) (Or.inl ⟨by rfl, ?_⟩) (by assumption) ?_
      rotate_left
      · (intro w hSw; (try dsimp only at hSw); go_simp; (try with_reducible rfl))
      (try simp only [List.getElem_toArray, List.getElem_cons_succ, List.getElem_cons_zero, Act.put, List.setIfInBounds_toArray, List.set_cons_zero, List.set_cons_succ])
      refine wpAnyH_take (i := 1) (oi := _) (v := ?_) rfl (by kernel_rfl) (by kernel_rfl) (by kernel_rfl) (fun _ _ _ h => h) (Or.inl ⟨by rfl, ?_⟩) (by assumption) ?_
      rotate_left
      · (intro w hSw; (try dsimp only at hSw); go_simp; (try with_reducible rfl))
      (try simp only [List.getElem_toArray, List.getElem_cons_succ, List.getElem_cons_zero, Act.put, List.setIfInBounds_toArray, List.set_cons_zero, List.set_cons_succ])
      refine wpAnyH_take (i := 2) (oi := _) (v := ?_) rfl (by kernel_rfl) (by kernel_rfl) (by kernel_rfl) (fun _ _ _ h => h) (Or.inl ⟨by rfl, ?_⟩) (by assumption) ?_
      rotate_left
      · (intro w hSw; (try dsimp only at hSw); go_simp; (try with_reducible rfl))
      (try simp only [List.getElem_toArray, List.getElem_cons_succ, List.getElem_cons_zero, Act.put, List.setIfInBounds_toArray, List.set_cons_zero, List.set_cons_succ])
      refine wpAnyH_take (i := 3) (oi := _) (v := ?_) rfl (by kernel_rfl) (by kernel_rfl) (by kernel_rfl) (fun _ _ _ h => h) (Or.inl ⟨by rfl, ?_⟩) (by assumption) ?_
      rotate_left
      · (intro w hSw; (try dsimp only at hSw); go_simp; (try with_reducible rfl))
      (try simp only [List.getElem_toArray, List.getElem_cons_succ, List.getElem_cons_zero, Act.put, List.setIfInBounds_toArray, List.set_cons_zero, List.set_cons_succ])
      refine wpAnyH_take (i := 4) (oi := _) (v := ?_) rfl (by kernel_rfl) (by kernel_rfl) (by kernel_rfl) (fun _ _ _ h => h) (Or.inl ⟨by rfl, ?_⟩) (by assumption) ?_
      rotate_left
      · (intro w hSw; (try dsimp only at hSw); go_simp; (try with_reducible rfl))
      (try simp only [List.getElem_toArray, List.getElem_cons_succ, List.getElem_cons_zero, Act.put, List.setIfInBounds_toArray, List.set_cons_zero, List.set_cons_succ])
      refine wpAnyH_take (i := 5) (oi := _) (v := ?_) rfl (by kernel_rfl) (by kernel_rfl) (by kernel_rfl) (fun _ _ _ h => h) (Or.inl ⟨by rfl, ?_⟩) (by assumption) ?_
      rotate_left
      · (intro w hSw; (try dsimp only at hSw); go_simp; (try with_reducible rfl))
      (try simp only [List.getElem_toArray, List.getElem_cons_succ, List.getElem_cons_zero, Act.put, List.setIfInBounds_toArray, List.set_cons_zero, List.set_cons_succ])
      refine wpAnyH_take (i := 6) (oi := _) (v := ?_) rfl (by kernel_rfl) (by kernel_rfl) (by kernel_rfl) (fun _ _ _ h => h) (Or.inl ⟨by rfl, ?_⟩) (by assumption) ?_
      rotate_left
      · (intro w hSw; (try dsimp only at hSw); go_simp; (try with_reducible rfl))
      (try simp only [List.getElem_toArray, List.getElem_cons_succ, List.getElem_cons_zero, Act.put, List.setIfInBounds_toArray, List.set_cons_zero, List.set_cons_succ])
      refine wpAnyH_take (i := 7) (oi := _) (v := ?_) rfl (by kernel_rfl) (by kernel_rfl) (by kernel_rfl) (fun _ _ _ h => h) (Or.inl ⟨by rfl, ?_⟩) (by assumption) ?_
      rotate_left
      · (intro w hSw; (try dsimp only at hSw); go_simp; (try with_reducible rfl))
      (try simp only [List.getElem_toArray, List.getElem_cons_succ, List.getElem_cons_zero, Act.put, List.setIfInBounds_toArray, List.set_cons_zero, List.set_cons_succ])
      refine wpAnyH_take (i := 8) (oi := _) (v := ?_) rfl (by kernel_rfl) (by kernel_rfl) (by kernel_rfl) (fun _ _ _ h => h) (Or.inl ⟨by rfl, ?_⟩) (by assumption) ?_
      rotate_left
      · (intro w hSw; (try dsimp only at hSw); go_simp; (try with_reducible rfl))
      (try simp only [List.getElem_toArray, List.getElem_cons_succ, List.getElem_cons_zero, Act.put, List.setIfInBounds_toArray, List.set_cons_zero, List.set_cons_succ])
      refine wpAnyH_take (i := 9) (oi := _) (v := ?_) rfl (by kernel_rfl) (by kernel_rfl) (by kernel_rfl) (fun _ _ _ h => h) (Or.inl ⟨by rfl, ?_⟩) (by assumption) ?_
      rotate_left
      · (intro w hSw; (try dsimp only at hSw); go_simp; (try with_reducible rfl))
      (try simp only [List.getElem_toArray, List.getElem_cons_succ, List.getElem_cons_zero, Act.put, List.setIfInBounds_toArray, List.set_cons_zero, List.set_cons_succ])
      refine wpAnyH_take (i := 10) (oi := _) (v := ?_) rfl (by kernel_rfl) (by kernel_rfl) (by kernel_rfl) (fun _ _ _ h => h) (Or.inl ⟨by rfl, ?_⟩) (by assumption) ?_
      rotate_left
      · (intro w hSw; (try dsimp only at hSw); go_simp; (try with_reducible rfl))
      (try simp only [List.getElem_toArray, List.getElem_cons_succ, List.getElem_cons_zero, Act.put, List.setIfInBounds_toArray, List.set_cons_zero, List.set_cons_succ])
      refine wpAnyH_take (i := 11) (oi := _) (v := ?_) rfl (by kernel_rfl) (by kernel_rfl) (by kernel_rfl) (fun _ _ _ h => h) (Or.inl ⟨by rfl, ?_⟩) (by assumption) ?_
      rotate_left
      · (intro w hSw; (try dsimp only at hSw); go_simp; (try with_reducible rfl))
      (try simp only [List.getElem_toArray, List.getElem_cons_succ, List.getElem_cons_zero, Act.put, List.setIfInBounds_toArray, List.set_cons_zero, List.set_cons_succ])
      refine wpAnyH_take (i := 12) (oi := _) (v := ?_) rfl (by kernel_rfl) (by kernel_rfl) (by kernel_rfl) (fun _ _ _ h => h) (Or.inl ⟨by rfl, ?_⟩) (by assumption) ?_
      rotate_left
      · (intro w hSw; (try dsimp only at hSw); go_simp; (try with_reducible rfl))
      (try simp only [List.getElem_toArray, List.getElem_cons_succ, List.getElem_cons_zero, Act.put, List.setIfInBounds_toArray, List.set_cons_zero, List.set_cons_succ])
      refine wpAnyH_ready (rs := [13]) (by kernel_rfl) (by simp) ?_
      refine AllReadyH.cons (o := _) rfl (fun K hK => ?_) ?_
      · (go_simp)
        (try go_wp2_with fail)
        refine hK.out _ _ ?_ (fun hHeld => ?_)
        · exact HS.out _ (by repeat (first | exact Below.refl _ _ | refine Below.drew ?_ | refine Below.setCell ?_ (by simp) _ | refine Below.alloc ?_ (by simp) _))
        clear hK K
        (try simp only [List.getElem_toArray, List.getElem_cons_succ, List.getElem_cons_zero, Act.put, List.setIfInBounds_toArray, List.set_cons_zero, List.set_cons_succ])
        refine wpAnyH_ready (rs := [14]) (by kernel_rfl) (by simp) ?_
        refine AllReadyH.cons (o := _) rfl (fun K hK => ?_) ?_
        · (go_simp)
          (try go_wp2_with fail)
          refine hK.out _ _ ?_ (fun hHeld => ?_)
          · exact HS.out _ (by repeat (first | exact Below.refl _ _ | refine Below.drew ?_ | refine Below.setCell ?_ (by simp) _ | refine Below.alloc ?_ (by simp) _))
          clear hK K
          (try simp only [List.getElem_toArray, List.getElem_cons_succ, List.getElem_cons_zero, Act.put, List.setIfInBounds_toArray, List.set_cons_zero, List.set_cons_succ])
          refine wpAnyH_done (by kernel_rfl) ?_ _
          (try go_simp)
          obtain ⟨w6, hw6⟩ : ∃ w6, w6 = (w5.alloc (.cells #[.int .i64 y1, .int .i64 e2, .int .i64 y3] 36)).drew := ⟨_, rfl⟩
          rw [← hw6]
          have hb6 : Below w5.heap.size w5 w6 := by rw [hw6]; exact ((Below.refl _ _).alloc (Nat.le_refl _) _).drew
          have hx6 : w6.heap[w5.heap.size]? = some (.cells #[.int .i64 y1, .int .i64 e2, .int .i64 y3] 36 (0, 0)) := by rw [hw6]; exact heap_alloc_new w5 _
          have hAy := (HB.out.1.below HB.out.2.2.2.2.2.2.2.1).below hb6
          have hne : ¬ w5.heap.size = gi := by have := HB.out.1.lt; have := HB.out.2.2.2.2.2.2.2.2; omega
          have HY : Hid _ := And.intro hb6 (And.intro hx6 (And.intro hAy hne))
          clear hw6 hb6 hx6 hAy hne hHeld
          obtain ⟨wo, rfl⟩ : ∃ wo, wo = wr := ⟨_, rfl⟩
          go_wp2_with fail
          go_loopg [10, 11] M (fun q s10 s11 wx => ∃ j : Nat, q = M - j ∧ j ≤ M ∧ s10 = .bool (fd (Sy.nf (btw cl es)) (y1, e2, y3) j) ∧ s11 = .int .i64 j ∧ Kept (fun b => b = gi) w6 wx ∧ Arr 4 w3 wx gi (bl M (vB (Sy.nf (btw cl es)) cl (es.take i) (y1, e2, y3) j)))
          case atStart => exact ⟨0, rfl, Nat.zero_le _, rfl, rfl, Kept.refl _ _, by have h9 := HY.out.2.2.1; rw [bl_congr (fun p _ => (vB_zero (Sy.nf (btw cl es)) cl (es.take i) (y1, e2, y3) p).symm)] at h9; exact h9⟩
          case round =>
            obtain ⟨j, rfl, hj, rfl, rfl, hK, hA⟩ := hrel
            have hgt := (hA.bl.block _ (t_lt H3.out.2.2.1)).trans H3.out.2.2.1
            obtain ⟨t0, t1, t2, t3⟩ := four_cells hgt
            have hyb := (hK.block _ (t_lt HY.out.2.1) HY.out.2.2.2).trans HY.out.2.1
            have v0 : wr.cell? ⟨w5.heap.size, 0, none⟩ = some (.int .i64 y1) := cell0_of hyb rfl
            have v1 : wr.cell? ⟨w5.heap.size, 1, none⟩ = some (.int .i64 e2) := cell0_of hyb rfl
            have v2 : wr.cell? ⟨w5.heap.size, 2, none⟩ = some (.int .i64 y3) := cell0_of hyb rfl
            by_cases hlt2 : j < M
            · obtain ⟨⟨f1, f2, f3⟩, hz2⟩ : ∃ e, (Sy.nf (btw cl es))[j]? = some e := ⟨(Sy.nf (btw cl es))[j]'(by have := H2.out.2.2.2.2; omega), List.getElem?_eq_getElem _⟩
              have hOx := edge_up4 H2.out.2.1 (H3.out.2.1.trans (hA.bl.mono H3.out.2.1.size))
              obtain ⟨a5, hae, g0, g1, g2⟩ := edge_at hOx.has hz2
              subst hae
              simp only at g0 g1 g2
              have u0 := hA.cell (bl_at (vB (Sy.nf (btw cl es)) cl (es.take i) (y1, e2, y3) j) hlt2)
              have uf := hA.free j
              have r0 : (0 : Int) ≤ (j : Int) := by omega
              have r1 : (j : Int) < (M : Int) := by omega
              have r6 : IntKind.i64.wrap ((j : Int) + 1) = (j : Int) + 1 := by rw [IntKind.wrap_i64]; omega
              have HK : Hid _ := And.intro hK (And.intro hA hz2)
              clear hK hA hz2 hOx hgt hyb t0 t1 t2
              go_upto_region 15 with fail
              by_cases hey : (f1, f2, f3) = (y1, e2, y3)
              · simp only [Prod.mk.injEq] at hey
                obtain ⟨z1, z2, z3⟩ := hey
                subst z1
                subst z2
                subst z3
                refine wp_region_held_drew (S := (fun W => W.cell? ⟨w2.heap.size, 3, none⟩ = some (.slice (some a5) M ce) ∧ W.cell? (a5.add (j * 3)) = some (.int .i64 f1) ∧ W.cell? ⟨(a5.add (j * 3)).block, (a5.add (j * 3)).off + 1, none⟩ = some (.int .i64 f2) ∧ W.cell? ⟨(a5.add (j * 3)).block, (a5.add (j * 3)).off + 2, none⟩ = some (.int .i64 f3) ∧ W.cell? ⟨w5.heap.size, 0, none⟩ = some (.int .i64 f1) ∧ W.cell? ⟨w5.heap.size, 1, none⟩ = some (.int .i64 f2) ∧ W.cell? ⟨w5.heap.size, 2, none⟩ = some (.int .i64 f3))) (by kernel_rfl) ?_ (fun hHeld => ?_)
                · exact ⟨t3, g0, g1, g2, v0, v1, v2⟩
                refine wpAnyH_take (i := 0) (oi := _) (v := ?_) rfl (by kernel_rfl) (by kernel_rfl) (by kernel_rfl) (fun _ _ _ h => h) (Or.inl ⟨by rfl, ?_⟩) (by assumption) ?_
                rotate_left
                · (intro w hSw; (try dsimp only at hSw); go_simp; (try with_reducible rfl))
                (try simp only [List.getElem_toArray, List.getElem_cons_succ, List.getElem_cons_zero, Act.put, List.setIfInBounds_toArray, List.set_cons_zero, List.set_cons_succ])
                refine wpAnyH_take (i := 1) (oi := _) (v := ?_) rfl (by kernel_rfl) (by kernel_rfl) (by kernel_rfl) (fun _ _ _ h => h) (Or.inl ⟨by rfl, ?_⟩) (by assumption) ?_
                rotate_left
                · (intro w hSw; (try dsimp only at hSw); go_simp; (try with_reducible rfl))
                (try simp only [List.getElem_toArray, List.getElem_cons_succ, List.getElem_cons_zero, Act.put, List.setIfInBounds_toArray, List.set_cons_zero, List.set_cons_succ])
                refine wpAnyH_take (i := 2) (oi := _) (v := ?_) rfl (by kernel_rfl) (by kernel_rfl) (by kernel_rfl) (fun _ _ _ h => h) (Or.inl ⟨by rfl, ?_⟩) (by assumption) ?_
                rotate_left
                · (intro w hSw; (try dsimp only at hSw); go_simp; (try with_reducible rfl))
                (try simp only [List.getElem_toArray, List.getElem_cons_succ, List.getElem_cons_zero, Act.put, List.setIfInBounds_toArray, List.set_cons_zero, List.set_cons_succ])
                refine wpAnyH_take (i := 3) (oi := _) (v := ?_) rfl (by kernel_rfl) (by kernel_rfl) (by kernel_rfl) (fun _ _ _ h => h) (Or.inl ⟨by rfl, ?_⟩) (by assumption) ?_
                rotate_left
                · (intro w hSw; (try dsimp only at hSw); go_simp; (try with_reducible rfl))
                (try simp only [List.getElem_toArray, List.getElem_cons_succ, List.getElem_cons_zero, Act.put, List.setIfInBounds_toArray, List.set_cons_zero, List.set_cons_succ])
                refine wpAnyH_take (i := 4) (oi := _) (v := ?_) rfl (by kernel_rfl) (by kernel_rfl) (by kernel_rfl) (fun _ _ _ h => h) (Or.inl ⟨by rfl, ?_⟩) (by assumption) ?_
                rotate_left
                · (intro w hSw; (try dsimp only at hSw); go_simp; (try with_reducible rfl))
                (try simp only [List.getElem_toArray, List.getElem_cons_succ, List.getElem_cons_zero, Act.put, List.setIfInBounds_toArray, List.set_cons_zero, List.set_cons_succ])
                refine wpAnyH_take (i := 5) (oi := _) (v := ?_) rfl (by kernel_rfl) (by kernel_rfl) (by kernel_rfl) (fun _ _ _ h => h) (Or.inl ⟨by rfl, ?_⟩) (by assumption) ?_
                rotate_left
                · (intro w hSw; (try dsimp only at hSw); go_simp; (try with_reducible rfl))
                (try simp only [List.getElem_toArray, List.getElem_cons_succ, List.getElem_cons_zero, Act.put, List.setIfInBounds_toArray, List.set_cons_zero, List.set_cons_succ])
                refine wpAnyH_take (i := 6) (oi := _) (v := ?_) rfl (by kernel_rfl) (by kernel_rfl) (by kernel_rfl) (fun _ _ _ h => h) (Or.inl ⟨by rfl, ?_⟩) (by assumption) ?_
                rotate_left
                · (intro w hSw; (try dsimp only at hSw); go_simp; (try with_reducible rfl))
                (try simp only [List.getElem_toArray, List.getElem_cons_succ, List.getElem_cons_zero, Act.put, List.setIfInBounds_toArray, List.set_cons_zero, List.set_cons_succ])
                refine wpAnyH_done (by kernel_rfl) ?_ _
                (try go_simp)
                go_wp2_with fail
                go_roundg (M - (j + 1))
                case measure => omega
                case rel => exact ⟨j + 1, rfl, by omega, by rw [fd_succ, HK.out.2.2]; simp, by go_num, HK.out.1.trans ((Kept.of_below ((Below.refl _ _).drew)).trans (Kept.setCell _ gi j _)), by have h9 := (HK.out.2.1.below ((Below.refl _ _).drew)).set j (.bool true); rw [bl_set, bl_congr (fun p _ => vB_hit HK.out.2.2 p)] at h9; exact h9⟩
              · have HM : Hid ((Sy.nf (btw cl es))[j]? ≠ some (y1, e2, y3)) := (fun e => hey (Option.some.inj (HK.out.2.2.symm.trans e)))
                by_cases z1 : f1 = y1
                · by_cases z2 : f2 = e2
                  · have z3 : ¬ f3 = y3 := fun z3 => hey (by rw [z1, z2, z3])
                    have o3 : (f3 == y3) = false := by simp [z3]
                    clear hey
                    refine wp_region_held_drew (S := (fun W => W.cell? ⟨w2.heap.size, 3, none⟩ = some (.slice (some a5) M ce) ∧ W.cell? (a5.add (j * 3)) = some (.int .i64 f1) ∧ W.cell? ⟨(a5.add (j * 3)).block, (a5.add (j * 3)).off + 1, none⟩ = some (.int .i64 f2) ∧ W.cell? ⟨(a5.add (j * 3)).block, (a5.add (j * 3)).off + 2, none⟩ = some (.int .i64 f3) ∧ W.cell? ⟨w5.heap.size, 0, none⟩ = some (.int .i64 y1) ∧ W.cell? ⟨w5.heap.size, 1, none⟩ = some (.int .i64 e2) ∧ W.cell? ⟨w5.heap.size, 2, none⟩ = some (.int .i64 y3))) (by kernel_rfl) ?_ (fun hHeld => ?_)
                    · exact ⟨t3, g0, g1, g2, v0, v1, v2⟩
                    refine wpAnyH_take (i := 0) (oi := _) (v := ?_) rfl (by kernel_rfl) (by kernel_rfl) (by kernel_rfl) (fun _ _ _ h => h) (Or.inl ⟨by rfl, ?_⟩) (by assumption) ?_
                    rotate_left
                    · (intro w hSw; (try dsimp only at hSw); go_simp; (try with_reducible rfl))
                    (try simp only [List.getElem_toArray, List.getElem_cons_succ, List.getElem_cons_zero, Act.put, List.setIfInBounds_toArray, List.set_cons_zero, List.set_cons_succ])
                    refine wpAnyH_take (i := 1) (oi := _) (v := ?_) rfl (by kernel_rfl) (by kernel_rfl) (by kernel_rfl) (fun _ _ _ h => h) (Or.inl ⟨by rfl, ?_⟩) (by assumption) ?_
                    rotate_left
                    · (intro w hSw; (try dsimp only at hSw); go_simp; (try with_reducible rfl))
                    (try simp only [List.getElem_toArray, List.getElem_cons_succ, List.getElem_cons_zero, Act.put, List.setIfInBounds_toArray, List.set_cons_zero, List.set_cons_succ])
                    refine wpAnyH_take (i := 2) (oi := _) (v := ?_) rfl (by kernel_rfl) (by kernel_rfl) (by kernel_rfl) (fun _ _ _ h => h) (Or.inl ⟨by rfl, ?_⟩) (by assumption) ?_
                    rotate_left
                    · (intro w hSw; (try dsimp only at hSw); go_simp; (try with_reducible rfl))
                    (try simp only [List.getElem_toArray, List.getElem_cons_succ, List.getElem_cons_zero, Act.put, List.setIfInBounds_toArray, List.set_cons_zero, List.set_cons_succ])
                    refine wpAnyH_take (i := 3) (oi := _) (v := ?_) rfl (by kernel_rfl) (by kernel_rfl) (by kernel_rfl) (fun _ _ _ h => h) (Or.inl ⟨by rfl, ?_⟩) (by assumption) ?_
                    rotate_left
                    · (intro w hSw; (try dsimp only at hSw); go_simp; (try with_reducible rfl))
                    (try simp only [List.getElem_toArray, List.getElem_cons_succ, List.getElem_cons_zero, Act.put, List.setIfInBounds_toArray, List.set_cons_zero, List.set_cons_succ])
                    refine wpAnyH_take (i := 4) (oi := _) (v := ?_) rfl (by kernel_rfl) (by kernel_rfl) (by kernel_rfl) (fun _ _ _ h => h) (Or.inl ⟨by rfl, ?_⟩) (by assumption) ?_
                    rotate_left
                    · (intro w hSw; (try dsimp only at hSw); go_simp; (try with_reducible rfl))
                    (try simp only [List.getElem_toArray, List.getElem_cons_succ, List.getElem_cons_zero, Act.put, List.setIfInBounds_toArray, List.set_cons_zero, List.set_cons_succ])
                    refine wpAnyH_take (i := 5) (oi := _) (v := ?_) rfl (by kernel_rfl) (by kernel_rfl) (by kernel_rfl) (fun _ _ _ h => h) (Or.inl ⟨by rfl, ?_⟩) (by assumption) ?_
                    rotate_left
                    · (intro w hSw; (try dsimp only at hSw); go_simp; (try with_reducible rfl))
                    (try simp only [List.getElem_toArray, List.getElem_cons_succ, List.getElem_cons_zero, Act.put, List.setIfInBounds_toArray, List.set_cons_zero, List.set_cons_succ])
                    refine wpAnyH_take (i := 6) (oi := _) (v := ?_) rfl (by kernel_rfl) (by kernel_rfl) (by kernel_rfl) (fun _ _ _ h => h) (Or.inl ⟨by rfl, ?_⟩) (by assumption) ?_
                    rotate_left
                    · (intro w hSw; (try dsimp only at hSw); go_simp; (try with_reducible rfl))
                    (try simp only [List.getElem_toArray, List.getElem_cons_succ, List.getElem_cons_zero, Act.put, List.setIfInBounds_toArray, List.set_cons_zero, List.set_cons_succ])
                    refine wpAnyH_done (by kernel_rfl) ?_ _
                    (try go_simp)
                    go_wp2_with fail
                    go_roundg (M - (j + 1))
                    case measure => omega
                    case rel => exact ⟨j + 1, rfl, by omega, by rw [fd_succ, decide_eq_false HM.out, Bool.or_false], by go_num, HK.out.1.trans (Kept.of_below ((Below.refl _ _).drew)), by have h9 := HK.out.2.1.below ((Below.refl _ _).drew); rw [bl_congr (fun p _ => vB_miss HM.out p)] at h9; exact h9⟩
                  · have o2 : (f2 == e2) = false := by simp [z2]
                    clear hey
                    refine wp_region_held_drew (S := (fun W => W.cell? ⟨w2.heap.size, 3, none⟩ = some (.slice (some a5) M ce) ∧ W.cell? (a5.add (j * 3)) = some (.int .i64 f1) ∧ W.cell? ⟨(a5.add (j * 3)).block, (a5.add (j * 3)).off + 1, none⟩ = some (.int .i64 f2) ∧ W.cell? ⟨(a5.add (j * 3)).block, (a5.add (j * 3)).off + 2, none⟩ = some (.int .i64 f3) ∧ W.cell? ⟨w5.heap.size, 0, none⟩ = some (.int .i64 y1) ∧ W.cell? ⟨w5.heap.size, 1, none⟩ = some (.int .i64 e2) ∧ W.cell? ⟨w5.heap.size, 2, none⟩ = some (.int .i64 y3))) (by kernel_rfl) ?_ (fun hHeld => ?_)
                    · exact ⟨t3, g0, g1, g2, v0, v1, v2⟩
                    refine wpAnyH_take (i := 0) (oi := _) (v := ?_) rfl (by kernel_rfl) (by kernel_rfl) (by kernel_rfl) (fun _ _ _ h => h) (Or.inl ⟨by rfl, ?_⟩) (by assumption) ?_
                    rotate_left
                    · (intro w hSw; (try dsimp only at hSw); go_simp; (try with_reducible rfl))
                    (try simp only [List.getElem_toArray, List.getElem_cons_succ, List.getElem_cons_zero, Act.put, List.setIfInBounds_toArray, List.set_cons_zero, List.set_cons_succ])
                    refine wpAnyH_take (i := 1) (oi := _) (v := ?_) rfl (by kernel_rfl) (by kernel_rfl) (by kernel_rfl) (fun _ _ _ h => h) (Or.inl ⟨by rfl, ?_⟩) (by assumption) ?_
                    rotate_left
                    · (intro w hSw; (try dsimp only at hSw); go_simp; (try with_reducible rfl))
                    (try simp only [List.getElem_toArray, List.getElem_cons_succ, List.getElem_cons_zero, Act.put, List.setIfInBounds_toArray, List.set_cons_zero, List.set_cons_succ])
                    refine wpAnyH_take (i := 2) (oi := _) (v := ?_) rfl (by kernel_rfl) (by kernel_rfl) (by kernel_rfl) (fun _ _ _ h => h) (Or.inl ⟨by rfl, ?_⟩) (by assumption) ?_
                    rotate_left
                    · (intro w hSw; (try dsimp only at hSw); go_simp; (try with_reducible rfl))
                    (try simp only [List.getElem_toArray, List.getElem_cons_succ, List.getElem_cons_zero, Act.put, List.setIfInBounds_toArray, List.set_cons_zero, List.set_cons_succ])
                    refine wpAnyH_take (i := 3) (oi := _) (v := ?_) rfl (by kernel_rfl) (by kernel_rfl) (by kernel_rfl) (fun _ _ _ h => h) (Or.inl ⟨by rfl, ?_⟩) (by assumption) ?_
                    rotate_left
                    · (intro w hSw; (try dsimp only at hSw); go_simp; (try with_reducible rfl))
                    (try simp only [List.getElem_toArray, List.getElem_cons_succ, List.getElem_cons_zero, Act.put, List.setIfInBounds_toArray, List.set_cons_zero, List.set_cons_succ])
                    refine wpAnyH_take (i := 4) (oi := _) (v := ?_) rfl (by kernel_rfl) (by kernel_rfl) (by kernel_rfl) (fun _ _ _ h => h) (Or.inl ⟨by rfl, ?_⟩) (by assumption) ?_
                    rotate_left
                    · (intro w hSw; (try dsimp only at hSw); go_simp; (try with_reducible rfl))
                    (try simp only [List.getElem_toArray, List.getElem_cons_succ, List.getElem_cons_zero, Act.put, List.setIfInBounds_toArray, List.set_cons_zero, List.set_cons_succ])
                    refine wpAnyH_take (i := 5) (oi := _) (v := ?_) rfl (by kernel_rfl) (by kernel_rfl) (by kernel_rfl) (fun _ _ _ h => h) (Or.inl ⟨by rfl, ?_⟩) (by assumption) ?_
                    rotate_left
                    · (intro w hSw; (try dsimp only at hSw); go_simp; (try with_reducible rfl))
                    (try simp only [List.getElem_toArray, List.getElem_cons_succ, List.getElem_cons_zero, Act.put, List.setIfInBounds_toArray, List.set_cons_zero, List.set_cons_succ])
                    refine wpAnyH_take (i := 6) (oi := _) (v := ?_) rfl (by kernel_rfl) (by kernel_rfl) (by kernel_rfl) (fun _ _ _ h => h) (Or.inl ⟨by rfl, ?_⟩) (by assumption) ?_
                    rotate_left
                    · (intro w hSw; (try dsimp only at hSw); go_simp; (try with_reducible rfl))
                    (try simp only [List.getElem_toArray, List.getElem_cons_succ, List.getElem_cons_zero, Act.put, List.setIfInBounds_toArray, List.set_cons_zero, List.set_cons_succ])
                    refine wpAnyH_done (by kernel_rfl) ?_ _
                    (try go_simp)
                    go_wp2_with fail
                    go_roundg (M - (j + 1))
                    case measure => omega
                    case rel => exact ⟨j + 1, rfl, by omega, by rw [fd_succ, decide_eq_false HM.out, Bool.or_false], by go_num, HK.out.1.trans (Kept.of_below ((Below.refl _ _).drew)), by have h9 := HK.out.2.1.below ((Below.refl _ _).drew); rw [bl_congr (fun p _ => vB_miss HM.out p)] at h9; exact h9⟩
                · have o1 : (f1 == y1) = false := by simp [z1]
                  clear hey
                  refine wp_region_held_drew (S := (fun W => W.cell? ⟨w2.heap.size, 3, none⟩ = some (.slice (some a5) M ce) ∧ W.cell? (a5.add (j * 3)) = some (.int .i64 f1) ∧ W.cell? ⟨(a5.add (j * 3)).block, (a5.add (j * 3)).off + 1, none⟩ = some (.int .i64 f2) ∧ W.cell? ⟨(a5.add (j * 3)).block, (a5.add (j * 3)).off + 2, none⟩ = some (.int .i64 f3) ∧ W.cell? ⟨w5.heap.size, 0, none⟩ = some (.int .i64 y1) ∧ W.cell? ⟨w5.heap.size, 1, none⟩ = some (.int .i64 e2) ∧ W.cell? ⟨w5.heap.size, 2, none⟩ = some (.int .i64 y3))) (by kernel_rfl) ?_ (fun hHeld => ?_)
                  · exact ⟨t3, g0, g1, g2, v0, v1, v2⟩
                  refine wpAnyH_take (i := 0) (oi := _) (v := ?_) rfl (by kernel_rfl) (by kernel_rfl) (by kernel_rfl) (fun _ _ _ h => h) (Or.inl ⟨by rfl, ?_⟩) (by assumption) ?_
                  rotate_left
                  · (intro w hSw; (try dsimp only at hSw); go_simp; (try with_reducible rfl))
                  (try simp only [List.getElem_toArray, List.getElem_cons_succ, List.getElem_cons_zero, Act.put, List.setIfInBounds_toArray, List.set_cons_zero, List.set_cons_succ])
                  refine wpAnyH_take (i := 1) (oi := _) (v := ?_) rfl (by kernel_rfl) (by kernel_rfl) (by kernel_rfl) (fun _ _ _ h => h) (Or.inl ⟨by rfl, ?_⟩) (by assumption) ?_
                  rotate_left
                  · (intro w hSw; (try dsimp only at hSw); go_simp; (try with_reducible rfl))
                  (try simp only [List.getElem_toArray, List.getElem_cons_succ, List.getElem_cons_zero, Act.put, List.setIfInBounds_toArray, List.set_cons_zero, List.set_cons_succ])
                  refine wpAnyH_take (i := 2) (oi := _) (v := ?_) rfl (by kernel_rfl) (by kernel_rfl) (by kernel_rfl) (fun _ _ _ h => h) (Or.inl ⟨by rfl, ?_⟩) (by assumption) ?_
                  rotate_left
                  · (intro w hSw; (try dsimp only at hSw); go_simp; (try with_reducible rfl))
                  (try simp only [List.getElem_toArray, List.getElem_cons_succ, List.getElem_cons_zero, Act.put, List.setIfInBounds_toArray, List.set_cons_zero, List.set_cons_succ])
                  refine wpAnyH_take (i := 3) (oi := _) (v := ?_) rfl (by kernel_rfl) (by kernel_rfl) (by kernel_rfl) (fun _ _ _ h => h) (Or.inl ⟨by rfl, ?_⟩) (by assumption) ?_
                  rotate_left
                  · (intro w hSw; (try dsimp only at hSw); go_simp; (try with_reducible rfl))
                  (try simp only [List.getElem_toArray, List.getElem_cons_succ, List.getElem_cons_zero, Act.put, List.setIfInBounds_toArray, List.set_cons_zero, List.set_cons_succ])
                  refine wpAnyH_take (i := 4) (oi := _) (v := ?_) rfl (by kernel_rfl) (by kernel_rfl) (by kernel_rfl) (fun _ _ _ h => h) (Or.inl ⟨by rfl, ?_⟩) (by assumption) ?_
                  rotate_left
                  · (intro w hSw; (try dsimp only at hSw); go_simp; (try with_reducible rfl))
                  (try simp only [List.getElem_toArray, List.getElem_cons_succ, List.getElem_cons_zero, Act.put, List.setIfInBounds_toArray, List.set_cons_zero, List.set_cons_succ])
                  refine wpAnyH_take (i := 5) (oi := _) (v := ?_) rfl (by kernel_rfl) (by kernel_rfl) (by kernel_rfl) (fun _ _ _ h => h) (Or.inl ⟨by rfl, ?_⟩) (by assumption) ?_
                  rotate_left
                  · (intro w hSw; (try dsimp only at hSw); go_simp; (try with_reducible rfl))
                  (try simp only [List.getElem_toArray, List.getElem_cons_succ, List.getElem_cons_zero, Act.put, List.setIfInBounds_toArray, List.set_cons_zero, List.set_cons_succ])
                  refine wpAnyH_take (i := 6) (oi := _) (v := ?_) rfl (by kernel_rfl) (by kernel_rfl) (by kernel_rfl) (fun _ _ _ h => h) (Or.inl ⟨by rfl, ?_⟩) (by assumption) ?_
                  rotate_left
                  · (intro w hSw; (try dsimp only at hSw); go_simp; (try with_reducible rfl))
                  (try simp only [List.getElem_toArray, List.getElem_cons_succ, List.getElem_cons_zero, Act.put, List.setIfInBounds_toArray, List.set_cons_zero, List.set_cons_succ])
                  refine wpAnyH_done (by kernel_rfl) ?_ _
                  (try go_simp)
                  go_wp2_with fail
                  go_roundg (M - (j + 1))
                  case measure => omega
                  case rel => exact ⟨j + 1, rfl, by omega, by rw [fd_succ, decide_eq_false HM.out, Bool.or_false], by go_num, HK.out.1.trans (Kept.of_below ((Below.refl _ _).drew)), by have h9 := HK.out.2.1.below ((Below.refl _ _).drew); rw [bl_congr (fun p _ => vB_miss HM.out p)] at h9; exact h9⟩
            · obtain rfl : M = j := by omega
              have r1 : ¬ (M : Int) < (M : Int) := by omega
              have hfd : fd (Sy.nf (btw cl es)) (y1, e2, y3) M = !(decide (e2 = 0) && decide (y1 = y3)) := by rw [H2.out.2.2.2.2, fd_all, ← HB.out.2.2.2.2.1, met_keep (List.mem_of_getElem? HB.out.2.2.2.1), HB.out.2.2.2.2.2.1]
              have hA2 : Arr 4 w3 wr gi (bl M (uB (Sy.nf (btw cl es)) cl (es.take (i + 1)))) := by
                rw [bl_congr (v := uB (Sy.nf (btw cl es)) cl (es.take (i + 1))) (fun p hp => by have h9 := uB_next (E := (Sy.nf (btw cl es))) (cl := cl) HB.out.2.2.2.1 p (by rw [← H2.out.2.2.2.2]; exact hp); rw [HB.out.2.2.2.2.1, ← H2.out.2.2.2.2] at h9; exact h9)] at hA
                exact hA
              have HZ : Hid _ := hA2
              clear hA hA2 hK hgt hyb t0 t1 t2 hj hlt2
              by_cases h20 : e2 = 0
              · have o2 : (e2 == 0) = true := by simp [h20]
                by_cases h13 : y1 = y3
                · have o3 : (y1 == y3) = true := by simp [h13]
                  rw [show fd (Sy.nf (btw cl es)) (y1, e2, y3) M = false by rw [hfd]; simp [h20, h13]]
                  clear hfd h20 h13
                  go_wp2_with fail
                  go_roundg (L - (i + 1))
                  case measure => omega
                  case rel => exact ⟨i + 1, rfl, by omega, by go_num, HZ.out⟩
                · have o3 : (y1 == y3) = false := by simp [h13]
                  rw [show fd (Sy.nf (btw cl es)) (y1, e2, y3) M = true by rw [hfd]; simp [h13]]
                  clear hfd h20 h13
                  go_wp2_with fail
                  go_roundg (L - (i + 1))
                  case measure => omega
                  case rel => exact ⟨i + 1, rfl, by omega, by go_num, HZ.out⟩
              · have o2 : (e2 == 0) = false := by simp [h20]
                rw [show fd (Sy.nf (btw cl es)) (y1, e2, y3) M = true by rw [hfd]; simp [h20]]
                clear hfd h20
                go_wp2_with fail
                go_roundg (L - (i + 1))
                case measure => omega
                case rel => exact ⟨i + 1, rfl, by omega, by go_num, HZ.out⟩
        exact AllReadyH.nil
      exact AllReadyH.nil
    · obtain rfl : L = i := by omega
      have p1 : ¬ (L : Int) < (L : Int) := by omega
      have hA' : Arr 4 w3 wr gi (bl M fun _ => true) := by
        rw [bl_congr (v := fun _ => true) (fun p hp => by rw [HV.out.2.1, List.take_length]; exact all_met (by rw [← H2.out.2.2.2.2]; exact hp))] at hA
        exact hA
      have HA2 : Hid _ := hA'
      clear hA hA' hi hlt
      obtain ⟨wo, rfl⟩ : ∃ wo, wo = wr := ⟨_, rfl⟩
      go_wp2_with fail
      go_loopg [12] M (fun q s12 wx => ∃ j : Nat, q = M - j ∧ j ≤ M ∧ s12 = .int .i64 j ∧ wx = wo)
      case atStart => exact ⟨0, rfl, Nat.zero_le _, rfl, rfl⟩
      case round =>
        obtain ⟨j, rfl, hj, rfl, hw⟩ := hrel
        subst hw
        clear p1
        by_cases hlt : j < M
        · have u0 := HA2.out.cell (bl_at (fun _ => true) hlt)
          have p0 : (0 : Int) ≤ (j : Int) := by omega
          have p1 : (j : Int) < (M : Int) := by omega
          have p6 : IntKind.i64.wrap ((j : Int) + 1) = (j : Int) + 1 := by rw [IntKind.wrap_i64]; omega
          go_wp2_with fail
          go_roundg (M - (j + 1))
          case measure => omega
          case rel => exact ⟨j + 1, rfl, by omega, by go_num, rfl⟩
        · obtain rfl : M = j := by omega
          have p1 : ¬ (M : Int) < (M : Int) := by omega
          have b2 := HA2.out.bl
          have hgs := (b2.block _ (t_lt H3.out.2.2.2.1)).trans H3.out.2.2.2.1
          have hgt := (b2.block _ (t_lt H3.out.2.2.1)).trans H3.out.2.2.1
          obtain ⟨x0, x1, x2, x3⟩ := four_cells hgs
          obtain ⟨t0, t1, t2, t3⟩ := four_cells hgt
          have bw : Below w.heap.size w wr := H3.out.2.2.2.2.1.trans (b2.mono H3.out.2.2.2.2.1.size)
          by_cases hn0 : n = 0
          · have q0 : ((n : Int) == 0) = true := by simp [hn0]
            have HS : Hid (∀ W, Below wr.heap.size wr W → (W.cell? ⟨w2.heap.size, 1, none⟩ = some (.int .i64 k) ∧ W.cell? ⟨w.heap.size, 0, none⟩ = some (.int .i64 n) ∧ W.cell? ⟨w.heap.size, 1, none⟩ = some (.int .i64 k))) := (fun W hb => ⟨cell_up t1 hb, cell_up x0 hb, cell_up x1 hb⟩ : ∀ W, Below wr.heap.size wr W → (W.cell? ⟨w2.heap.size, 1, none⟩ = some (.int .i64 k) ∧ W.cell? ⟨w.heap.size, 0, none⟩ = some (.int .i64 n) ∧ W.cell? ⟨w.heap.size, 1, none⟩ = some (.int .i64 k)))
            have HB9 : Hid _ := bw
            clear bw b2 hgs hgt x0 x1 x2 x3 t0 t1 t2 t3 hn0
            go_upto_region 25 with fail
            refine wp_region_held_drew (S := (fun W => W.cell? ⟨w2.heap.size, 1, none⟩ = some (.int .i64 k) ∧ W.cell? ⟨w.heap.size, 0, none⟩ = some (.int .i64 n) ∧ W.cell? ⟨w.heap.size, 1, none⟩ = some (.int .i64 k))) (by kernel_rfl) ?_ (fun hHeld => ?_)
            · exact HS.out _ ((Below.refl _ _).drew)
            refine wpAnyH_ready (rs := [0]) (by kernel_rfl) (by simp) ?_
            refine AllReadyH.cons (o := _) rfl (fun K hK => ?_) ?_
            · (go_simp; go_at_call 5; refine Calls.mono (HV.out.2.2.1 _ (HB9.out.trans (((Below.refl wr.heap.size wr).drew).mono HB9.out.size))) ?_; rintro r9 w9 ⟨rfl, hb9⟩; have H9 : Hid (Below wr.heap.size wr w9) := ((Below.refl wr.heap.size wr).drew).trans hb9; clear hb9)
              (try go_wp2_with fail)
              refine hK.out _ _ ?_ (fun hHeld => ?_)
              · exact HS.out _ H9.out
              clear hK K
              (try simp only [List.getElem_toArray, List.getElem_cons_succ, List.getElem_cons_zero, Act.put, List.setIfInBounds_toArray, List.set_cons_zero, List.set_cons_succ])
              refine wpAnyH_take (i := 1) (oi := _) (v := ?_) rfl (by kernel_rfl) (by kernel_rfl) (by kernel_rfl) (fun _ _ _ h => h) (Or.inl ⟨by rfl, ?_⟩) (by assumption) ?_
              rotate_left
              · (intro w hSw; (try dsimp only at hSw); go_simp; (try with_reducible rfl))
              (try simp only [List.getElem_toArray, List.getElem_cons_succ, List.getElem_cons_zero, Act.put, List.setIfInBounds_toArray, List.set_cons_zero, List.set_cons_succ])
              refine wpAnyH_take (i := 2) (oi := _) (v := ?_) rfl (by kernel_rfl) (by kernel_rfl) (by kernel_rfl) (fun _ _ _ h => h) (Or.inl ⟨by rfl, ?_⟩) (by assumption) ?_
              rotate_left
              · (intro w hSw; (try dsimp only at hSw); go_simp; (try with_reducible rfl))
              (try simp only [List.getElem_toArray, List.getElem_cons_succ, List.getElem_cons_zero, Act.put, List.setIfInBounds_toArray, List.set_cons_zero, List.set_cons_succ])
              refine wpAnyH_take (i := 3) (oi := _) (v := ?_) rfl (by kernel_rfl) (by kernel_rfl) (by kernel_rfl) (fun _ _ _ h => h) (Or.inl ⟨by rfl, ?_⟩) (by assumption) ?_
              rotate_left
              · (intro w hSw; (try dsimp only at hSw); go_simp; (try with_reducible rfl))
              (try simp only [List.getElem_toArray, List.getElem_cons_succ, List.getElem_cons_zero, Act.put, List.setIfInBounds_toArray, List.set_cons_zero, List.set_cons_succ])
              refine wpAnyH_take (i := 4) (oi := _) (v := ?_) rfl (by kernel_rfl) (by kernel_rfl) (by kernel_rfl) (fun _ _ _ h => h) (Or.inl ⟨by rfl, ?_⟩) (by assumption) ?_
              rotate_left
              · (intro w hSw; (try dsimp only at hSw); go_simp; (try with_reducible rfl))
              (try simp only [List.getElem_toArray, List.getElem_cons_succ, List.getElem_cons_zero, Act.put, List.setIfInBounds_toArray, List.set_cons_zero, List.set_cons_succ])
              refine wpAnyH_take (i := 5) (oi := _) (v := ?_) rfl (by kernel_rfl) (by kernel_rfl) (by kernel_rfl) (fun _ _ _ h => h) (Or.inl ⟨by rfl, ?_⟩) (by assumption) ?_
              rotate_left
              · (intro w hSw; (try dsimp only at hSw); go_simp; (try with_reducible rfl))
              (try simp only [List.getElem_toArray, List.getElem_cons_succ, List.getElem_cons_zero, Act.put, List.setIfInBounds_toArray, List.set_cons_zero, List.set_cons_succ])
              refine wpAnyH_take (i := 6) (oi := _) (v := ?_) rfl (by kernel_rfl) (by kernel_rfl) (by kernel_rfl) (fun _ _ _ h => h) (Or.inl ⟨by rfl, ?_⟩) (by assumption) ?_
              rotate_left
              · (intro w hSw; (try dsimp only at hSw); go_simp; (try with_reducible rfl))
              (try simp only [List.getElem_toArray, List.getElem_cons_succ, List.getElem_cons_zero, Act.put, List.setIfInBounds_toArray, List.set_cons_zero, List.set_cons_succ])
              refine wpAnyH_take (i := 7) (oi := _) (v := ?_) rfl (by kernel_rfl) (by kernel_rfl) (by kernel_rfl) (fun _ _ _ h => h) (Or.inl ⟨by rfl, ?_⟩) (by assumption) ?_
              rotate_left
              · (intro w hSw; (try dsimp only at hSw); go_simp; (try with_reducible rfl))
              (try simp only [List.getElem_toArray, List.getElem_cons_succ, List.getElem_cons_zero, Act.put, List.setIfInBounds_toArray, List.set_cons_zero, List.set_cons_succ])
              refine wpAnyH_take (i := 8) (oi := _) (v := ?_) rfl (by kernel_rfl) (by kernel_rfl) (by kernel_rfl) (fun _ _ _ h => h) (Or.inl ⟨by rfl, ?_⟩) (by assumption) ?_
              rotate_left
              · (intro w hSw; (try dsimp only at hSw); go_simp; (try with_reducible rfl))
              (try simp only [List.getElem_toArray, List.getElem_cons_succ, List.getElem_cons_zero, Act.put, List.setIfInBounds_toArray, List.set_cons_zero, List.set_cons_succ])
              refine wpAnyH_take (i := 9) (oi := _) (v := ?_) rfl (by kernel_rfl) (by kernel_rfl) (by kernel_rfl) (fun _ _ _ h => h) (Or.inl ⟨by rfl, ?_⟩) (by assumption) ?_
              rotate_left
              · (intro w hSw; (try dsimp only at hSw); go_simp; (try with_reducible rfl))
              (try simp only [List.getElem_toArray, List.getElem_cons_succ, List.getElem_cons_zero, Act.put, List.setIfInBounds_toArray, List.set_cons_zero, List.set_cons_succ])
              refine wpAnyH_take (i := 10) (oi := _) (v := ?_) rfl (by kernel_rfl) (by kernel_rfl) (by kernel_rfl) (fun _ _ _ h => h) (Or.inl ⟨by rfl, ?_⟩) (by assumption) ?_
              rotate_left
              · (intro w hSw; (try dsimp only at hSw); go_simp; (try with_reducible rfl))
              (try simp only [List.getElem_toArray, List.getElem_cons_succ, List.getElem_cons_zero, Act.put, List.setIfInBounds_toArray, List.set_cons_zero, List.set_cons_succ])
              refine wpAnyH_take (i := 11) (oi := _) (v := ?_) rfl (by kernel_rfl) (by kernel_rfl) (by kernel_rfl) (fun _ _ _ h => h) (Or.inl ⟨by rfl, ?_⟩) (by assumption) ?_
              rotate_left
              · (intro w hSw; (try dsimp only at hSw); go_simp; (try with_reducible rfl))
              (try simp only [List.getElem_toArray, List.getElem_cons_succ, List.getElem_cons_zero, Act.put, List.setIfInBounds_toArray, List.set_cons_zero, List.set_cons_succ])
              refine wpAnyH_take (i := 12) (oi := _) (v := ?_) rfl (by kernel_rfl) (by kernel_rfl) (by kernel_rfl) (fun _ _ _ h => h) (Or.inl ⟨by rfl, ?_⟩) (by assumption) ?_
              rotate_left
              · (intro w hSw; (try dsimp only at hSw); go_simp; (try with_reducible rfl))
              (try simp only [List.getElem_toArray, List.getElem_cons_succ, List.getElem_cons_zero, Act.put, List.setIfInBounds_toArray, List.set_cons_zero, List.set_cons_succ])
              refine wpAnyH_take (i := 13) (oi := _) (v := undef) rfl (by kernel_rfl) (by kernel_rfl) (by kernel_rfl) (fun _ _ _ h => h) (Or.inr ⟨by rfl, rfl⟩) (by assumption) ?_
              (try simp only [List.getElem_toArray, List.getElem_cons_succ, List.getElem_cons_zero, Act.put, List.setIfInBounds_toArray, List.set_cons_zero, List.set_cons_succ])
              refine wpAnyH_take (i := 14) (oi := _) (v := undef) rfl (by kernel_rfl) (by kernel_rfl) (by kernel_rfl) (fun _ _ _ h => h) (Or.inr ⟨by rfl, rfl⟩) (by assumption) ?_
              (try simp only [List.getElem_toArray, List.getElem_cons_succ, List.getElem_cons_zero, Act.put, List.setIfInBounds_toArray, List.set_cons_zero, List.set_cons_succ])
              refine wpAnyH_take (i := 15) (oi := _) (v := undef) rfl (by kernel_rfl) (by kernel_rfl) (by kernel_rfl) (fun _ _ _ h => h) (Or.inr ⟨by rfl, rfl⟩) (by assumption) ?_
              (try simp only [List.getElem_toArray, List.getElem_cons_succ, List.getElem_cons_zero, Act.put, List.setIfInBounds_toArray, List.set_cons_zero, List.set_cons_succ])
              refine wpAnyH_take (i := 16) (oi := _) (v := undef) rfl (by kernel_rfl) (by kernel_rfl) (by kernel_rfl) (fun _ _ _ h => h) (Or.inr ⟨by rfl, rfl⟩) (by assumption) ?_
              (try simp only [List.getElem_toArray, List.getElem_cons_succ, List.getElem_cons_zero, Act.put, List.setIfInBounds_toArray, List.set_cons_zero, List.set_cons_succ])
              refine wpAnyH_take (i := 17) (oi := _) (v := undef) rfl (by kernel_rfl) (by kernel_rfl) (by kernel_rfl) (fun _ _ _ h => h) (Or.inr ⟨by rfl, rfl⟩) (by assumption) ?_
              (try simp only [List.getElem_toArray, List.getElem_cons_succ, List.getElem_cons_zero, Act.put, List.setIfInBounds_toArray, List.set_cons_zero, List.set_cons_succ])
              refine wpAnyH_take (i := 18) (oi := _) (v := undef) rfl (by kernel_rfl) (by kernel_rfl) (by kernel_rfl) (fun _ _ _ h => h) (Or.inr ⟨by rfl, rfl⟩) (by assumption) ?_
              (try simp only [List.getElem_toArray, List.getElem_cons_succ, List.getElem_cons_zero, Act.put, List.setIfInBounds_toArray, List.set_cons_zero, List.set_cons_succ])
              refine wpAnyH_take (i := 19) (oi := _) (v := undef) rfl (by kernel_rfl) (by kernel_rfl) (by kernel_rfl) (fun _ _ _ h => h) (Or.inr ⟨by rfl, rfl⟩) (by assumption) ?_
              (try simp only [List.getElem_toArray, List.getElem_cons_succ, List.getElem_cons_zero, Act.put, List.setIfInBounds_toArray, List.set_cons_zero, List.set_cons_succ])
              refine wpAnyH_take (i := 20) (oi := _) (v := undef) rfl (by kernel_rfl) (by kernel_rfl) (by kernel_rfl) (fun _ _ _ h => h) (Or.inr ⟨by rfl, rfl⟩) (by assumption) ?_
              (try simp only [List.getElem_toArray, List.getElem_cons_succ, List.getElem_cons_zero, Act.put, List.setIfInBounds_toArray, List.set_cons_zero, List.set_cons_succ])
              refine wpAnyH_take (i := 21) (oi := _) (v := ?_) rfl (by kernel_rfl) (by kernel_rfl) (by kernel_rfl) (fun _ _ _ h => h) (Or.inl ⟨by rfl, ?_⟩) (by assumption) ?_
              rotate_left
              · (intro w hSw; (try dsimp only at hSw); go_simp; (try with_reducible rfl))
              (try simp only [List.getElem_toArray, List.getElem_cons_succ, List.getElem_cons_zero, Act.put, List.setIfInBounds_toArray, List.set_cons_zero, List.set_cons_succ])
              refine wpAnyH_take (i := 22) (oi := _) (v := ?_) rfl (by kernel_rfl) (by kernel_rfl) (by kernel_rfl) (fun _ _ _ h => h) (Or.inl ⟨by rfl, ?_⟩) (by assumption) ?_
              rotate_left
              · (intro w hSw; (try dsimp only at hSw); go_simp; (try with_reducible rfl))
              (try simp only [List.getElem_toArray, List.getElem_cons_succ, List.getElem_cons_zero, Act.put, List.setIfInBounds_toArray, List.set_cons_zero, List.set_cons_succ])
              refine wpAnyH_take (i := 23) (oi := _) (v := ?_) rfl (by kernel_rfl) (by kernel_rfl) (by kernel_rfl) (fun _ _ _ h => h) (Or.inl ⟨by rfl, ?_⟩) (by assumption) ?_
              rotate_left
              · (intro w hSw; (try dsimp only at hSw); go_simp; (try with_reducible rfl))
              (try simp only [List.getElem_toArray, List.getElem_cons_succ, List.getElem_cons_zero, Act.put, List.setIfInBounds_toArray, List.set_cons_zero, List.set_cons_succ])
              refine wpAnyH_done (by kernel_rfl) ?_ _
              (try go_simp)
              go_wp2_with fail
              go_ret
              exact ⟨rfl, HB9.out.trans (H9.out.mono HB9.out.size)⟩
            exact AllReadyH.nil
          · have hsr := (right_parts HV.out.2.2.2).2.2.2.2.1 (by omega)
            obtain ⟨sp, rfl⟩ : ∃ p : Nat, s = (p : Int) := ⟨s.toNat, by omega⟩
            have hcl := H2.out.1.len
            have gp : cl[sp]? = some (cl[sp]'(by omega)) := List.getElem?_eq_getElem _
            obtain ⟨x, hx⟩ : ∃ x, x = cl[sp]'(by omega) := ⟨_, rfl⟩
            rw [← hx] at gp
            have hst2 : st = (x : Int) := by rw [H3.out.2.2.2.2.2.2.2.1]; unfold sta; rw [if_pos (by omega), cla_at gp]
            subst hst2
            obtain ⟨gc, cc, hc1, c1⟩ := own_cell (own_up4 (own_up4 H2.out.2.2.1 H3.out.2.1) b2) (natI_at gp)
            simp only [Value.slice.injEq] at hc1
            obtain ⟨rfl, -, -⟩ := hc1
            have q0 : ((n : Int) == 0) = false := by simp; omega
            have p2 : (0 : Int) ≤ (sp : Int) := by omega
            have p3 : (sp : Int) < (n : Int) := by omega
            have HS : Hid (∀ W, Below wr.heap.size wr W → (W.cell? ⟨w2.heap.size, 1, none⟩ = some (.int .i64 k) ∧ W.cell? ⟨w2.heap.size, 2, none⟩ = some (.int .i64 x) ∧ W.cell? ⟨w.heap.size, 0, none⟩ = some (.int .i64 n) ∧ W.cell? ⟨w.heap.size, 1, none⟩ = some (.int .i64 k) ∧ W.cell? ⟨w.heap.size, 2, none⟩ = some (.int .i64 sp) ∧ W.cell? ⟨gc, sp, none⟩ = some (.int .i64 x))) := (fun W hb => ⟨cell_up t1 hb, cell_up t2 hb, cell_up x0 hb, cell_up x1 hb, cell_up x2 hb, cell_up c1 hb⟩ : ∀ W, Below wr.heap.size wr W → (W.cell? ⟨w2.heap.size, 1, none⟩ = some (.int .i64 k) ∧ W.cell? ⟨w2.heap.size, 2, none⟩ = some (.int .i64 x) ∧ W.cell? ⟨w.heap.size, 0, none⟩ = some (.int .i64 n) ∧ W.cell? ⟨w.heap.size, 1, none⟩ = some (.int .i64 k) ∧ W.cell? ⟨w.heap.size, 2, none⟩ = some (.int .i64 sp) ∧ W.cell? ⟨gc, sp, none⟩ = some (.int .i64 x)))
            have HB9 : Hid _ := bw
            clear bw b2 hgs hgt x0 x1 x2 x3 t0 t1 t2 t3 hn0 hcl gp hx c1 hsr
            go_upto_region 25 with fail
            refine wp_region_held_drew (S := (fun W => W.cell? ⟨w2.heap.size, 1, none⟩ = some (.int .i64 k) ∧ W.cell? ⟨w2.heap.size, 2, none⟩ = some (.int .i64 x) ∧ W.cell? ⟨w.heap.size, 0, none⟩ = some (.int .i64 n) ∧ W.cell? ⟨w.heap.size, 1, none⟩ = some (.int .i64 k) ∧ W.cell? ⟨w.heap.size, 2, none⟩ = some (.int .i64 sp) ∧ W.cell? ⟨gc, sp, none⟩ = some (.int .i64 x))) (by kernel_rfl) ?_ (fun hHeld => ?_)
            · exact HS.out _ ((Below.refl _ _).drew)
            refine wpAnyH_ready (rs := [0]) (by kernel_rfl) (by simp) ?_
            refine AllReadyH.cons (o := _) rfl (fun K hK => ?_) ?_
            · (go_simp; go_at_call 5; refine Calls.mono (HV.out.2.2.1 _ (HB9.out.trans (((Below.refl wr.heap.size wr).drew).mono HB9.out.size))) ?_; rintro r9 w9 ⟨rfl, hb9⟩; have H9 : Hid (Below wr.heap.size wr w9) := ((Below.refl wr.heap.size wr).drew).trans hb9; clear hb9)
              (try go_wp2_with fail)
              refine hK.out _ _ ?_ (fun hHeld => ?_)
              · exact HS.out _ H9.out
              clear hK K
              (try simp only [List.getElem_toArray, List.getElem_cons_succ, List.getElem_cons_zero, Act.put, List.setIfInBounds_toArray, List.set_cons_zero, List.set_cons_succ])
              refine wpAnyH_take (i := 1) (oi := _) (v := ?_) rfl (by kernel_rfl) (by kernel_rfl) (by kernel_rfl) (fun _ _ _ h => h) (Or.inl ⟨by rfl, ?_⟩) (by assumption) ?_
              rotate_left
              · (intro w hSw; (try dsimp only at hSw); go_simp; (try with_reducible rfl))
              (try simp only [List.getElem_toArray, List.getElem_cons_succ, List.getElem_cons_zero, Act.put, List.setIfInBounds_toArray, List.set_cons_zero, List.set_cons_succ])
              refine wpAnyH_take (i := 2) (oi := _) (v := ?_) rfl (by kernel_rfl) (by kernel_rfl) (by kernel_rfl) (fun _ _ _ h => h) (Or.inl ⟨by rfl, ?_⟩) (by assumption) ?_
              rotate_left
              · (intro w hSw; (try dsimp only at hSw); go_simp; (try with_reducible rfl))
              (try simp only [List.getElem_toArray, List.getElem_cons_succ, List.getElem_cons_zero, Act.put, List.setIfInBounds_toArray, List.set_cons_zero, List.set_cons_succ])
              refine wpAnyH_take (i := 3) (oi := _) (v := ?_) rfl (by kernel_rfl) (by kernel_rfl) (by kernel_rfl) (fun _ _ _ h => h) (Or.inl ⟨by rfl, ?_⟩) (by assumption) ?_
              rotate_left
              · (intro w hSw; (try dsimp only at hSw); go_simp; (try with_reducible rfl))
              (try simp only [List.getElem_toArray, List.getElem_cons_succ, List.getElem_cons_zero, Act.put, List.setIfInBounds_toArray, List.set_cons_zero, List.set_cons_succ])
              refine wpAnyH_take (i := 4) (oi := _) (v := ?_) rfl (by kernel_rfl) (by kernel_rfl) (by kernel_rfl) (fun _ _ _ h => h) (Or.inl ⟨by rfl, ?_⟩) (by assumption) ?_
              rotate_left
              · (intro w hSw; (try dsimp only at hSw); go_simp; (try with_reducible rfl))
              (try simp only [List.getElem_toArray, List.getElem_cons_succ, List.getElem_cons_zero, Act.put, List.setIfInBounds_toArray, List.set_cons_zero, List.set_cons_succ])
              refine wpAnyH_take (i := 5) (oi := _) (v := ?_) rfl (by kernel_rfl) (by kernel_rfl) (by kernel_rfl) (fun _ _ _ h => h) (Or.inl ⟨by rfl, ?_⟩) (by assumption) ?_
              rotate_left
              · (intro w hSw; (try dsimp only at hSw); go_simp; (try with_reducible rfl))
              (try simp only [List.getElem_toArray, List.getElem_cons_succ, List.getElem_cons_zero, Act.put, List.setIfInBounds_toArray, List.set_cons_zero, List.set_cons_succ])
              refine wpAnyH_take (i := 6) (oi := _) (v := ?_) rfl (by kernel_rfl) (by kernel_rfl) (by kernel_rfl) (fun _ _ _ h => h) (Or.inl ⟨by rfl, ?_⟩) (by assumption) ?_
              rotate_left
              · (intro w hSw; (try dsimp only at hSw); go_simp; (try with_reducible rfl))
              (try simp only [List.getElem_toArray, List.getElem_cons_succ, List.getElem_cons_zero, Act.put, List.setIfInBounds_toArray, List.set_cons_zero, List.set_cons_succ])
              refine wpAnyH_take (i := 7) (oi := _) (v := ?_) rfl (by kernel_rfl) (by kernel_rfl) (by kernel_rfl) (fun _ _ _ h => h) (Or.inl ⟨by rfl, ?_⟩) (by assumption) ?_
              rotate_left
              · (intro w hSw; (try dsimp only at hSw); go_simp; (try with_reducible rfl))
              (try simp only [List.getElem_toArray, List.getElem_cons_succ, List.getElem_cons_zero, Act.put, List.setIfInBounds_toArray, List.set_cons_zero, List.set_cons_succ])
              refine wpAnyH_take (i := 8) (oi := _) (v := ?_) rfl (by kernel_rfl) (by kernel_rfl) (by kernel_rfl) (fun _ _ _ h => h) (Or.inl ⟨by rfl, ?_⟩) (by assumption) ?_
              rotate_left
              · (intro w hSw; (try dsimp only at hSw); go_simp; (try with_reducible rfl))
              (try simp only [List.getElem_toArray, List.getElem_cons_succ, List.getElem_cons_zero, Act.put, List.setIfInBounds_toArray, List.set_cons_zero, List.set_cons_succ])
              refine wpAnyH_take (i := 9) (oi := _) (v := ?_) rfl (by kernel_rfl) (by kernel_rfl) (by kernel_rfl) (fun _ _ _ h => h) (Or.inl ⟨by rfl, ?_⟩) (by assumption) ?_
              rotate_left
              · (intro w hSw; (try dsimp only at hSw); go_simp; (try with_reducible rfl))
              (try simp only [List.getElem_toArray, List.getElem_cons_succ, List.getElem_cons_zero, Act.put, List.setIfInBounds_toArray, List.set_cons_zero, List.set_cons_succ])
              refine wpAnyH_take (i := 10) (oi := _) (v := ?_) rfl (by kernel_rfl) (by kernel_rfl) (by kernel_rfl) (fun _ _ _ h => h) (Or.inl ⟨by rfl, ?_⟩) (by assumption) ?_
              rotate_left
              · (intro w hSw; (try dsimp only at hSw); go_simp; (try with_reducible rfl))
              (try simp only [List.getElem_toArray, List.getElem_cons_succ, List.getElem_cons_zero, Act.put, List.setIfInBounds_toArray, List.set_cons_zero, List.set_cons_succ])
              refine wpAnyH_take (i := 11) (oi := _) (v := ?_) rfl (by kernel_rfl) (by kernel_rfl) (by kernel_rfl) (fun _ _ _ h => h) (Or.inl ⟨by rfl, ?_⟩) (by assumption) ?_
              rotate_left
              · (intro w hSw; (try dsimp only at hSw); go_simp; (try with_reducible rfl))
              (try simp only [List.getElem_toArray, List.getElem_cons_succ, List.getElem_cons_zero, Act.put, List.setIfInBounds_toArray, List.set_cons_zero, List.set_cons_succ])
              refine wpAnyH_take (i := 12) (oi := _) (v := ?_) rfl (by kernel_rfl) (by kernel_rfl) (by kernel_rfl) (fun _ _ _ h => h) (Or.inl ⟨by rfl, ?_⟩) (by assumption) ?_
              rotate_left
              · (intro w hSw; (try dsimp only at hSw); go_simp; (try with_reducible rfl))
              (try simp only [List.getElem_toArray, List.getElem_cons_succ, List.getElem_cons_zero, Act.put, List.setIfInBounds_toArray, List.set_cons_zero, List.set_cons_succ])
              refine wpAnyH_take (i := 13) (oi := _) (v := ?_) rfl (by kernel_rfl) (by kernel_rfl) (by kernel_rfl) (fun _ _ _ h => h) (Or.inl ⟨by rfl, ?_⟩) (by assumption) ?_
              rotate_left
              · (intro w hSw; (try dsimp only at hSw); go_simp; (try with_reducible rfl))
              (try simp only [List.getElem_toArray, List.getElem_cons_succ, List.getElem_cons_zero, Act.put, List.setIfInBounds_toArray, List.set_cons_zero, List.set_cons_succ])
              refine wpAnyH_take (i := 14) (oi := _) (v := ?_) rfl (by kernel_rfl) (by kernel_rfl) (by kernel_rfl) (fun _ _ _ h => h) (Or.inl ⟨by rfl, ?_⟩) (by assumption) ?_
              rotate_left
              · (intro w hSw; (try dsimp only at hSw); go_simp; (try with_reducible rfl))
              (try simp only [List.getElem_toArray, List.getElem_cons_succ, List.getElem_cons_zero, Act.put, List.setIfInBounds_toArray, List.set_cons_zero, List.set_cons_succ])
              refine wpAnyH_take (i := 15) (oi := _) (v := ?_) rfl (by kernel_rfl) (by kernel_rfl) (by kernel_rfl) (fun _ _ _ h => h) (Or.inl ⟨by rfl, ?_⟩) (by assumption) ?_
              rotate_left
              · (intro w hSw; (try dsimp only at hSw); go_simp; (try with_reducible rfl))
              (try simp only [List.getElem_toArray, List.getElem_cons_succ, List.getElem_cons_zero, Act.put, List.setIfInBounds_toArray, List.set_cons_zero, List.set_cons_succ])
              refine wpAnyH_take (i := 16) (oi := _) (v := ?_) rfl (by kernel_rfl) (by kernel_rfl) (by kernel_rfl) (fun _ _ _ h => h) (Or.inl ⟨by rfl, ?_⟩) (by assumption) ?_
              rotate_left
              · (intro w hSw; (try dsimp only at hSw); go_simp; (try with_reducible rfl))
              (try simp only [List.getElem_toArray, List.getElem_cons_succ, List.getElem_cons_zero, Act.put, List.setIfInBounds_toArray, List.set_cons_zero, List.set_cons_succ])
              refine wpAnyH_take (i := 17) (oi := _) (v := ?_) rfl (by kernel_rfl) (by kernel_rfl) (by kernel_rfl) (fun _ _ _ h => h) (Or.inl ⟨by rfl, ?_⟩) (by assumption) ?_
              rotate_left
              · (intro w hSw; (try dsimp only at hSw); go_simp; (try with_reducible rfl))
              (try simp only [List.getElem_toArray, List.getElem_cons_succ, List.getElem_cons_zero, Act.put, List.setIfInBounds_toArray, List.set_cons_zero, List.set_cons_succ])
              refine wpAnyH_take (i := 18) (oi := _) (v := ?_) rfl (by kernel_rfl) (by kernel_rfl) (by kernel_rfl) (fun _ _ _ h => h) (Or.inl ⟨by rfl, ?_⟩) (by assumption) ?_
              rotate_left
              · (intro w hSw; (try dsimp only at hSw); go_simp; (try with_reducible rfl))
              (try simp only [List.getElem_toArray, List.getElem_cons_succ, List.getElem_cons_zero, Act.put, List.setIfInBounds_toArray, List.set_cons_zero, List.set_cons_succ])
              refine wpAnyH_take (i := 19) (oi := _) (v := ?_) rfl (by kernel_rfl) (by kernel_rfl) (by kernel_rfl) (fun _ _ _ h => h) (Or.inl ⟨by rfl, ?_⟩) (by assumption) ?_
              rotate_left
              · (intro w hSw; (try dsimp only at hSw); go_simp; (try with_reducible rfl))
              (try simp only [List.getElem_toArray, List.getElem_cons_succ, List.getElem_cons_zero, Act.put, List.setIfInBounds_toArray, List.set_cons_zero, List.set_cons_succ])
              refine wpAnyH_take (i := 20) (oi := _) (v := ?_) rfl (by kernel_rfl) (by kernel_rfl) (by kernel_rfl) (fun _ _ _ h => h) (Or.inl ⟨by rfl, ?_⟩) (by assumption) ?_
              rotate_left
              · (intro w hSw; (try dsimp only at hSw); go_simp; (try with_reducible rfl))
              (try simp only [List.getElem_toArray, List.getElem_cons_succ, List.getElem_cons_zero, Act.put, List.setIfInBounds_toArray, List.set_cons_zero, List.set_cons_succ])
              refine wpAnyH_take (i := 21) (oi := _) (v := ?_) rfl (by kernel_rfl) (by kernel_rfl) (by kernel_rfl) (fun _ _ _ h => h) (Or.inl ⟨by rfl, ?_⟩) (by assumption) ?_
              rotate_left
              · (intro w hSw; (try dsimp only at hSw); go_simp; (try with_reducible rfl))
              (try simp only [List.getElem_toArray, List.getElem_cons_succ, List.getElem_cons_zero, Act.put, List.setIfInBounds_toArray, List.set_cons_zero, List.set_cons_succ])
              refine wpAnyH_take (i := 22) (oi := _) (v := ?_) rfl (by kernel_rfl) (by kernel_rfl) (by kernel_rfl) (fun _ _ _ h => h) (Or.inl ⟨by rfl, ?_⟩) (by assumption) ?_
              rotate_left
              · (intro w hSw; (try dsimp only at hSw); go_simp; (try with_reducible rfl))
              (try simp only [List.getElem_toArray, List.getElem_cons_succ, List.getElem_cons_zero, Act.put, List.setIfInBounds_toArray, List.set_cons_zero, List.set_cons_succ])
              refine wpAnyH_take (i := 23) (oi := _) (v := ?_) rfl (by kernel_rfl) (by kernel_rfl) (by kernel_rfl) (fun _ _ _ h => h) (Or.inl ⟨by rfl, ?_⟩) (by assumption) ?_
              rotate_left
              · (intro w hSw; (try dsimp only at hSw); go_simp; (try with_reducible rfl))
              (try simp only [List.getElem_toArray, List.getElem_cons_succ, List.getElem_cons_zero, Act.put, List.setIfInBounds_toArray, List.set_cons_zero, List.set_cons_succ])
              refine wpAnyH_done (by kernel_rfl) ?_ _
              (try go_simp)
              go_wp2_with fail
              go_ret
              exact ⟨rfl, HB9.out.trans (H9.out.mono HB9.out.size)⟩
            exact AllReadyH.nil
theorem lawEdges_any (hS : SortOk 1000000) (n k s : Int) (v : Value) (es : List Sy.Ed) (a : Addr) (w : World) (hE : Sent w 0 a) (hv : HasE w v es) :
    Calls Tryd.prog 4 #[sysV n k s v] w fun r w' => r = .returned (.bool true) ∧ Below w.heap.size w w' := by
  have hA := pAl hS a w hE
  by_cases h1 : 300 < es.length ∨ 60 < n
  · exact lawE_out n k s v es w hA hv h1
  · cases hq : Sy.right n k s es with
    | false => exact lawE_bad hS n k s v es a w hA hE hv (by omega) (by omega) hq
    | true =>
      have hp := right_parts hq
      obtain ⟨m, rfl⟩ : ∃ m : Nat, n = (m : Int) := ⟨n.toNat, by omega⟩
      exact lawE_in hS m k s v es a w hA hE hv (by omega) (by omega) hq
end Go.Proofs.YtplofbabfkkimaaDoor.Ts
