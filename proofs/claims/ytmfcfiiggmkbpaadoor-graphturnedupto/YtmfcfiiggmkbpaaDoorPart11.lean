/- Texts of this claim, joined: SyTurned, SoPiv. -/
import Derived.Test.YtmfcfiiggmkbpaaDoorPart10
import Derived.Deep.QuietTactic
import Derived.BigQuiet
import Derived.Test.YtmfcfiiggmkbpaaDoorPart6
/- GraphTurned as a call. (Written by mkturned.py.) -/
namespace Go.Proofs.YtmfcfiiggmkbpaaDoor
open Go.RowKit Go.Maps
attribute [local go_sem ↓] Go.wp_at_zero Go.wp_at_succ
theorem bel7 {w W w8 : World} (hb : Below W.heap.size W w8) (h : Below w.heap.size w W) : Below w.heap.size w w8 := h.trans (hb.mono h.size)
set_option maxRecDepth 100000 in
set_option maxHeartbeats 4000000 in
theorem lawTurned_out (n k s : Int) (v : Value) (es : List Sy.Ed) (w : World) (hA : PAlive w) (hv : HasE w v es) (hlen : 300 < es.length ∨ 40 < n) :
    Calls Tryd.prog 4 #[sysV n k s v] w fun r w' => r = .returned (.bool true) ∧ Below w.heap.size w w' := by
  obtain ⟨ao, cap, rfl, hcap, hH⟩ := hv
  obtain ⟨L, hL⟩ : ∃ L, L = es.length := ⟨_, rfl⟩
  rw [← hL] at hcap hlen ⊢
  have HA : Hid (PAlive w) := hA
  have hb0 : ∀ o, Below w.heap.size w (w.alloc o) := fun o => (Below.refl _ _).alloc (Nat.le_refl _) _
  have HB : Hid (∀ o, Below w.heap.size w (w.alloc o)) := hb0
  unfold sysV
  clear hA hH hcap hb0 hL
  by_cases h1 : 300 < L
  · have q1 : (300 : Int) < (L : Int) := by omega
    clear hlen
    go_enter Tryd.func4, Tryd.ntmps4
    go_wp2_with (go_at_call 7; refine Calls.mono (HA.out _ (HB.out _)) ?_; rintro r w1 ⟨rfl, hb1⟩; have hb2 := bel7 hb1 (HB.out _))
    go_ret
    exact ⟨rfl, hb2⟩
  · have q1 : ¬ (300 : Int) < (L : Int) := by omega
    have q2 : (40 : Int) < n := by omega
    clear hlen
    go_enter Tryd.func4, Tryd.ntmps4
    go_wp2_with (go_at_call 7; refine Calls.mono (HA.out _ (HB.out _)) ?_; rintro r w1 ⟨rfl, hb1⟩; have hb2 := bel7 hb1 (HB.out _))
    go_ret
    exact ⟨rfl, hb2⟩
set_option maxRecDepth 100000 in
set_option maxHeartbeats 4000000 in
theorem lawTurned_bad (hS : SortOk 1000000) (n k s : Int) (v : Value) (es : List Sy.Ed) (e : Nat → Addr) (w : World) (hA : PAlive w) (hE : Er 19 w e) (hv : HasE w v es) (hlen : es.length ≤ 300) (hn : n ≤ 40) (hq : Sy.right n k s es = false) :
    Calls Tryd.prog 4 #[sysV n k s v] w fun r w' => r = .returned (.bool true) ∧ Below w.heap.size w w' := by
  have hN := fun W (hb : Below w.heap.size w W) => new_bad hS n k s v es (e 14) W ((hE.below hb).s14 (by decide)) (by obtain ⟨_, _, _, _, h⟩ := hv; exact h.below hb) (by omega) (by omega) hq
  obtain ⟨ao, cap, rfl, hcap, hH⟩ := hv
  obtain ⟨L, hL⟩ : ∃ L, L = es.length := ⟨_, rfl⟩
  rw [← hL] at hcap hlen hN ⊢
  have HA : Hid _ := And.intro hA (And.intro hN hE)
  have hb0 : ∀ o, Below w.heap.size w (w.alloc o) := fun o => (Below.refl _ _).alloc (Nat.le_refl _) _
  have HB : Hid (∀ o, Below w.heap.size w (w.alloc o)) := hb0
  unfold sysV at HA ⊢
  have q1 : ¬ (300 : Int) < (L : Int) := by omega
  have q2 : ¬ (40 : Int) < n := by omega
  clear hA hH hcap hb0 hL hN hE hq
  go_enter Tryd.func4, Tryd.ntmps4
  go_wp2_with fail
  refine Calls.mono (HA.out.2.1 _ (HB.out _)) ?_
  rintro r w1 ⟨x, rfl, hC, hb1⟩
  have hb2 := bel7 hb1 (HB.out _)
  have hx := hC
  obtain ⟨bx, ux, hx1, _, _⟩ := hx
  have H1 : Hid _ := And.intro hC hb2
  subst hx1
  clear hC hb1 hb2
  go_wp2_with fail
  refine Calls.mono (HA.out.1 _ H1.out.2) ?_
  rintro r w2 ⟨rfl, hb2⟩
  have H2 : Hid _ := And.intro (bel7 hb2 H1.out.2) (H1.out.1.below hb2)
  clear hb2
  go_wp2_with fail
  refine Calls.mono (code_14 (Nat.le_of_lt (by decide)) _ _ _ _ e _ (HA.out.2.2.below H2.out.1) H2.out.2) ?_
  rintro r w3 ⟨rfl, hw3⟩
  obtain rfl := hw3.symm
  clear hw3
  go_wp2_with fail
  go_ret
  exact ⟨rfl, H2.out.1⟩
set_option maxRecDepth 100000 in
set_option maxHeartbeats 32000000 in
theorem lawTurned_ok (hS : SortOk 1000000) (m : Nat) (k s : Int) (v : Value) (es : List Sy.Ed) (e : Nat → Addr) (w : World) (hA : PAlive w) (hE : Er 19 w e) (hv : HasE w v es) (hlen : es.length ≤ 300) (hn : m ≤ 40) (hq : Sy.right m k s es = true) :
    Calls Tryd.prog 4 #[sysV m k s v] w fun r w' => r = .returned (.bool true) ∧ Below w.heap.size w w' := by
  have hN := fun W (hb : Below w.heap.size w W) => new_ok hS m k s v es (e 14) W ((hE.below hb).s14 (by decide)) (by obtain ⟨_, _, _, _, h⟩ := hv; exact h.below hb) (by omega) (by omega) hq
  have hvs := hv
  obtain ⟨ao, cap, rfl, hcap, hH⟩ := hvs
  obtain ⟨N, hNN⟩ : ∃ N, N = es.length := ⟨_, rfl⟩
  rw [← hNN] at hcap hlen hN ⊢
  have HV : Hid (BEdges.Has w (.slice ao N cap) es ∧ N = es.length) := (by rw [hNN]; exact ⟨hH, rfl⟩ : BEdges.Has w (.slice ao N cap) es ∧ N = es.length)
  have HA : Hid _ := And.intro hA hN
  obtain ⟨w1, hw1⟩ : ∃ w1, w1 = w.alloc (.cells #[.int .i64 m, .int .i64 k, .int .i64 s, .slice ao N cap] 24) := ⟨_, rfl⟩
  have hb1 : Below w.heap.size w w1 := by rw [hw1]; exact (Below.refl _ _).alloc (Nat.le_refl _) _
  have hgS : w1.heap[w.heap.size]? = some (.cells #[.int .i64 m, .int .i64 k, .int .i64 s, .slice ao N cap] 24 (0, 0)) := by rw [hw1]; exact heap_alloc_new w _
  have HW1 : Hid _ := And.intro hw1 (And.intro hb1 hgS)
  unfold sysV at HA ⊢
  have q1 : ¬ (300 : Int) < (N : Int) := by omega
  have q2 : ¬ (40 : Int) < (m : Int) := by omega
  clear hA hH hcap hNN hN hE hv hw1 hb1 hgS
  go_enter Tryd.func4, Tryd.ntmps4
  go_wp2_with fail
  rw [← HW1.out.1]
  refine Calls.mono (HA.out.2 _ HW1.out.2.1) ?_
  rintro r w2 ⟨g, bs, bb, cs, cb, m', hm', rfl, hG2, hb2⟩
  obtain rfl : m = m' := by omega
  clear hm'
  have hE2 := edges_any w2 hG2
  have H2 : Hid _ := And.intro hE2 (And.intro hG2 (And.intro (bel7 hb2 HW1.out.2.1) (res_up7 hb2 HW1.out.2.2)))
  clear hE2 hG2 hb2
  go_wp2_with fail
  refine Calls.mono H2.out.1 ?_
  rintro r w3 ⟨u3, rfl, hO3, hb3⟩
  obtain ⟨l, hl⟩ : ∃ l, l = Sy.nf es := ⟨_, rfl⟩
  rw [← hl] at hO3
  obtain ⟨a3, k3, hu3⟩ := row_shape hO3
  obtain ⟨L, hL⟩ : ∃ L, L = l.length := ⟨_, rfl⟩
  rw [← hL] at hu3
  subst hu3
  have hGr := H2.out.2.1.below hb3
  have HG : Hid (Gr w3 w1.heap.size g bs bb cs cb m k s es ∧ Sy.right m k s es = true ∧ BEdges.Own w3 w2.heap.size (.slice a3 L k3) l ∧ l = Sy.nf es ∧ L = l.length ∧ Below w.heap.size w w3 ∧ w3.heap[w.heap.size]? = some (.cells #[.int .i64 m, .int .i64 k, .int .i64 s, .slice ao N cap] 24 (0, 0))) := ⟨hGr, hq, hO3, hl, hL, bel7 hb3 H2.out.2.2.1, res_up7 hb3 H2.out.2.2.2⟩
  have hLm : L ≤ 10000 := by rw [hL, hl]; exact hGr.sizes.2
  clear hGr hO3 hl hL hb3 H2
  go_wp2_with fail
  go_loopg [7] L (fun q iv wr => ∃ i : Nat, q = L - i ∧ i ≤ L ∧ iv = .int .i64 i ∧ Below w3.heap.size w3 wr)
  case atStart => exact ⟨0, rfl, Nat.zero_le _, rfl, Below.refl _ _⟩
  case round =>
    obtain ⟨i, rfl, hi, rfl, hb3⟩ := hrel
    by_cases hlt : i < L
    · obtain ⟨⟨f, lab, t⟩, hz⟩ : ∃ z, l[i]? = some z := ⟨l[i]'(by have := HG.out.2.2.2.2.1; omega), List.getElem?_eq_getElem _⟩
      obtain ⟨g3, rfl, c0, c1, c2⟩ := own_edge HG.out.2.2.1 hz
      simp only at c0 c1 c2
      have HZE : Hid ((Sy.nf es)[i]? = some (f, lab, t)) := (by rw [← HG.out.2.2.2.1]; exact hz : (Sy.nf es)[i]? = some (f, lab, t))
      have y0 := cell_up c0 hb3
      have p0 : (0 : Int) ≤ (i : Int) := by omega
      have p1 : (i : Int) < (L : Int) := by omega
      have HOOut : Hid _ := out_any f wr (HG.out.1.below hb3)
      clear hz
      obtain ⟨ws, rfl⟩ : ∃ ws, ws = wr := ⟨_, rfl⟩
      · go_wp2_with fail
        refine Calls.mono (HOOut.out) ?_
        rintro r w4 ⟨u4, rfl, hO4, hb4⟩
        have hb34 := bel7 hb4 hb3
        obtain ⟨row, hrow⟩ : ∃ row, row = Sy.rowOf m (Sy.nf es) f := ⟨_, rfl⟩
        have hzr : (lab, t) ∈ row := by rw [hrow]; exact Sy.row_mem (z := (f, lab, t)) HG.out.2.1 (List.mem_of_getElem? HZE.out)
        rw [← hrow] at hO4
        obtain ⟨a4, k4, hu4⟩ := row_shape hO4
        obtain ⟨M, hM⟩ : ∃ M, M = row.length := ⟨_, rfl⟩
        rw [← hM] at hu4
        subst hu4
        have HO4 : Hid (BSteps.Own w4 ws.heap.size (.slice a4 M k4) row ∧ Below w3.heap.size w3 w4 ∧ M = row.length ∧ (lab, t) ∈ row ∧ M ≤ 100000) := ⟨hO4, hb34, hM, hzr, by have hx1 := rowOf_len m (Sy.nf es) f; have hx2 := nf_turn_len es; rw [← hrow, ← hM] at hx1; have hx3 := HG.out.1.sizes; omega⟩
        have hM5 : M ≤ 100000 := HO4.out.2.2.2.2
        clear hO4 hb4 hb34 hrow hM hzr
        go_wp2_with fail
        go_loopg [8, 59] M (fun q av kv wr => ∃ k2 : Nat, q = M - k2 ∧ k2 ≤ M ∧ kv = .int .i64 k2 ∧ av = .bool (mt row (lab, t) k2) ∧ Below w4.heap.size w4 wr)
        case atStart => exact ⟨0, rfl, Nat.zero_le _, rfl, by rw [mt_zero], Below.refl _ _⟩
        case round =>
          obtain ⟨k2, rfl, hk, rfl, rfl, hb⟩ := hrel
          by_cases hkm : k2 < M
          · obtain ⟨x, hx⟩ : ∃ x, row[k2]? = some x := ⟨row[k2]'(by have := HO4.out.2.2.1; omega), List.getElem?_eq_getElem _⟩
            obtain ⟨g4, rfl, d0, d1⟩ := own_step (trow_at (w' := wr) HO4.out.1 fun b e => hb.block b (HO4.out.1.lt b e).2) hx
            have hstep := mt_succ (lab, t) hx
            obtain ⟨x1, x2⟩ := x
            simp only at d0 d1
            obtain ⟨wb, hwb⟩ : ∃ wb, wb = wr.alloc (.cells #[.int .i64 x1, .int .i64 x2] 51) := ⟨_, rfl⟩
            have hbb : Below wr.heap.size wr wb := by rw [hwb]; exact (Below.refl _ _).alloc (Nat.le_refl _) _
            have hgb : wb.heap[wr.heap.size]? = some (.cells #[.int .i64 x1, .int .i64 x2] 51 (0, 0)) := by rw [hwb]; exact heap_alloc_new wr _
            have f0 : wb.cell? ⟨wr.heap.size, 0, none⟩ = some (.int .i64 x1) := cell0_of hgb rfl
            have f1 : wb.cell? ⟨wr.heap.size, 1, none⟩ = some (.int .i64 x2) := cell0_of hgb rfl
            have hb3b : Below w3.heap.size w3 wb := bel7 hbb (bel7 hb HO4.out.2.1)
            have y0 := cell_up c0 hb3b
            have y1 := cell_up c1 hb3b
            have y2 := cell_up c2 hb3b
            have k0 : (0 : Int) ≤ (k2 : Int) := by omega
            have k1 : (k2 : Int) < (M : Int) := by omega
            have HZ : Hid _ := And.intro (bel7 hbb hb) (And.intro hstep hwb)
            clear hb hbb hgb hb3b hstep hwb hx
            generalize hfl : mt row (lab, t) k2 = fl at HZ ⊢
            clear hfl
            go_upto_region 15 with fail
            rw [← HZ.out.2.2]
            cases fl with
            | true =>
              go_quiet (fail)
              rename Nat => q5
              go_wp2_with fail
              go_roundg (M - (k2 + 1))
              case measure => omega
              case rel => exact ⟨k2 + 1, rfl, by omega, by go_num, by rw [HZ.out.2.1]; rfl, below_drewN HZ.out.1 _⟩
            | false =>
              by_cases g1 : x1 = lab
              · subst g1
                by_cases g2 : x2 = t
                · subst g2
                  go_quiet (fail)
                  rename Nat => q5
                  go_wp2_with fail
                  go_roundg (M - (k2 + 1))
                  case measure => omega
                  case rel => exact ⟨k2 + 1, rfl, by omega, by go_num, by rw [HZ.out.2.1]; simp, below_drewN HZ.out.1 _⟩
                · have g3 : (x2 == t) = false := by simpa using g2
                  have HG2 : Hid (¬ x2 = t) := g2
                  clear g2
                  go_quiet (fail)
                  rename Nat => q5
                  go_wp2_with fail
                  go_roundg (M - (k2 + 1))
                  case measure => omega
                  case rel => exact ⟨k2 + 1, rfl, by omega, by go_num, by rw [HZ.out.2.1]; simp [HG2.out], below_drewN HZ.out.1 _⟩
              · have g3 : (x1 == lab) = false := by simpa using g1
                have HG2 : Hid (¬ x1 = lab) := g1
                clear g1
                go_quiet (fail)
                rename Nat => q5
                go_wp2_with fail
                go_roundg (M - (k2 + 1))
                case measure => omega
                case rel => exact ⟨k2 + 1, rfl, by omega, by go_num, by rw [HZ.out.2.1]; simp [HG2.out], below_drewN HZ.out.1 _⟩
          · obtain rfl : k2 = M := by omega
            have k1 : ¬ (k2 : Int) < (k2 : Int) := by omega
            rw [mt_all HO4.out.2.2.1 HO4.out.2.2.2.1]
            have hb3 : Below w3.heap.size w3 wr := bel7 hb HO4.out.2.1
            clear hb HO4
            have HOIn : Hid _ := in_any t wr ((HG.out.1.below hb3))
            have y2 := cell_up c2 hb3
            obtain ⟨wt, rfl⟩ : ∃ wt, wt = wr := ⟨_, rfl⟩
            go_wp2_with fail
            refine Calls.mono (HOIn.out) ?_
            rintro r w4 ⟨u4, rfl, hO4, hb4⟩
            have hb34 := bel7 hb4 hb3
            obtain ⟨row, hrow⟩ : ∃ row, row = Sy.rowOf m (Sy.nf ((Sy.nf es).map Sy.turn)) t := ⟨_, rfl⟩
            have hzr : (lab, f) ∈ row := by rw [hrow]; exact Sy.row_memIn (z := (f, lab, t)) HG.out.2.1 (List.mem_of_getElem? HZE.out)
            rw [← hrow] at hO4
            obtain ⟨a4, k4, hu4⟩ := row_shape hO4
            obtain ⟨M, hM⟩ : ∃ M, M = row.length := ⟨_, rfl⟩
            rw [← hM] at hu4
            subst hu4
            have HO4 : Hid (BSteps.Own w4 wt.heap.size (.slice a4 M k4) row ∧ Below w3.heap.size w3 w4 ∧ M = row.length ∧ (lab, f) ∈ row ∧ M ≤ 100000) := ⟨hO4, hb34, hM, hzr, by have hx1 := rowOf_len m (Sy.nf ((Sy.nf es).map Sy.turn)) t; have hx2 := nf_turn_len es; rw [← hrow, ← hM] at hx1; have hx3 := HG.out.1.sizes; omega⟩
            have hM5 : M ≤ 100000 := HO4.out.2.2.2.2
            clear hO4 hb4 hb34 hrow hM hzr
            go_wp2_with fail
            go_loopg [9, 88] M (fun q av kv wr => ∃ k2 : Nat, q = M - k2 ∧ k2 ≤ M ∧ kv = .int .i64 k2 ∧ av = .bool (mt row (lab, f) k2) ∧ Below w4.heap.size w4 wr)
            case atStart => exact ⟨0, rfl, Nat.zero_le _, rfl, by rw [mt_zero], Below.refl _ _⟩
            case round =>
              obtain ⟨k2, rfl, hk, rfl, rfl, hb⟩ := hrel
              by_cases hkm : k2 < M
              · obtain ⟨x, hx⟩ : ∃ x, row[k2]? = some x := ⟨row[k2]'(by have := HO4.out.2.2.1; omega), List.getElem?_eq_getElem _⟩
                obtain ⟨g4, rfl, d0, d1⟩ := own_step (trow_at (w' := wr) HO4.out.1 fun b e => hb.block b (HO4.out.1.lt b e).2) hx
                have hstep := mt_succ (lab, f) hx
                obtain ⟨x1, x2⟩ := x
                simp only at d0 d1
                obtain ⟨wb, hwb⟩ : ∃ wb, wb = wr.alloc (.cells #[.int .i64 x1, .int .i64 x2] 51) := ⟨_, rfl⟩
                have hbb : Below wr.heap.size wr wb := by rw [hwb]; exact (Below.refl _ _).alloc (Nat.le_refl _) _
                have hgb : wb.heap[wr.heap.size]? = some (.cells #[.int .i64 x1, .int .i64 x2] 51 (0, 0)) := by rw [hwb]; exact heap_alloc_new wr _
                have f0 : wb.cell? ⟨wr.heap.size, 0, none⟩ = some (.int .i64 x1) := cell0_of hgb rfl
                have f1 : wb.cell? ⟨wr.heap.size, 1, none⟩ = some (.int .i64 x2) := cell0_of hgb rfl
                have hb3b : Below w3.heap.size w3 wb := bel7 hbb (bel7 hb HO4.out.2.1)
                have y0 := cell_up c0 hb3b
                have y1 := cell_up c1 hb3b
                have y2 := cell_up c2 hb3b
                have k0 : (0 : Int) ≤ (k2 : Int) := by omega
                have k1 : (k2 : Int) < (M : Int) := by omega
                have HZ : Hid _ := And.intro (bel7 hbb hb) (And.intro hstep hwb)
                clear hb hbb hgb hb3b hstep hwb hx
                generalize hfl : mt row (lab, f) k2 = fl at HZ ⊢
                clear hfl
                go_upto_region 20 with fail
                rw [← HZ.out.2.2]
                cases fl with
                | true =>
                  go_quiet (fail)
                  rename Nat => q5
                  go_wp2_with fail
                  go_roundg (M - (k2 + 1))
                  case measure => omega
                  case rel => exact ⟨k2 + 1, rfl, by omega, by go_num, by rw [HZ.out.2.1]; rfl, below_drewN HZ.out.1 _⟩
                | false =>
                  by_cases g1 : x1 = lab
                  · subst g1
                    by_cases g2 : x2 = f
                    · subst g2
                      go_quiet (fail)
                      rename Nat => q5
                      go_wp2_with fail
                      go_roundg (M - (k2 + 1))
                      case measure => omega
                      case rel => exact ⟨k2 + 1, rfl, by omega, by go_num, by rw [HZ.out.2.1]; simp, below_drewN HZ.out.1 _⟩
                    · have g3 : (x2 == f) = false := by simpa using g2
                      have HG2 : Hid (¬ x2 = f) := g2
                      clear g2
                      go_quiet (fail)
                      rename Nat => q5
                      go_wp2_with fail
                      go_roundg (M - (k2 + 1))
                      case measure => omega
                      case rel => exact ⟨k2 + 1, rfl, by omega, by go_num, by rw [HZ.out.2.1]; simp [HG2.out], below_drewN HZ.out.1 _⟩
                  · have g3 : (x1 == lab) = false := by simpa using g1
                    have HG2 : Hid (¬ x1 = lab) := g1
                    clear g1
                    go_quiet (fail)
                    rename Nat => q5
                    go_wp2_with fail
                    go_roundg (M - (k2 + 1))
                    case measure => omega
                    case rel => exact ⟨k2 + 1, rfl, by omega, by go_num, by rw [HZ.out.2.1]; simp [HG2.out], below_drewN HZ.out.1 _⟩
              · obtain rfl : k2 = M := by omega
                have k1 : ¬ (k2 : Int) < (k2 : Int) := by omega
                rw [mt_all HO4.out.2.2.1 HO4.out.2.2.2.1]
                have hb3 : Below w3.heap.size w3 wr := bel7 hb HO4.out.2.1
                clear hb HO4
                have HB9 : Hid _ := hb3
                clear hb3
                go_wp2_with fail
                go_roundg (L - (i + 1))
                case measure => omega
                case rel => exact ⟨i + 1, rfl, by omega, by go_num, HB9.out⟩
    · obtain rfl : i = L := by omega
      have p1 : ¬ (i : Int) < (i : Int) := by omega
      have HB3 : Hid _ := hb3
      clear hb3
      go_wp2_with fail
      go_loopg [14] N (fun q iv wr => ∃ j : Nat, q = N - j ∧ j ≤ N ∧ iv = .int .i64 j ∧ Below w3.heap.size w3 wr)
      case atStart => exact ⟨0, rfl, Nat.zero_le _, rfl, HB3.out⟩
      case round =>
        obtain ⟨j, rfl, hj, rfl, hb3⟩ := hrel
        clear HB3
        have s3 := cell_up (cell0_of (k := 3) HG.out.2.2.2.2.2.2 rfl) hb3
        by_cases hjn : j < N
        · obtain ⟨⟨f, lab, t⟩, hz⟩ : ∃ z, es[j]? = some z := ⟨es[j]'(by have := HV.out.2; omega), List.getElem?_eq_getElem _⟩
          obtain ⟨a, rfl, c0, c1, c2⟩ := edge_at HV.out.1 hz
          simp only at c0 c1 c2
          have HZE : Hid ((f, lab, t) ∈ l) := (by rw [HG.out.2.2.2.1, Sy.nf_mem]; exact List.mem_of_getElem? hz : (f, lab, t) ∈ l)
          have p0 : (0 : Int) ≤ (j : Int) := by omega
          have p1 : (j : Int) < (N : Int) := by omega
          have HB4 : Hid _ := hb3
          obtain ⟨ws, rfl⟩ : ∃ ws, ws = wr := ⟨_, rfl⟩
          clear hz hb3
          go_wp2_with fail
          go_loopg [15, 16] i (fun q fv kv wr => ∃ k2 : Nat, q = i - k2 ∧ k2 ≤ i ∧ kv = .int .i64 k2 ∧ fv = .bool (mt l (f, lab, t) k2) ∧ Below w3.heap.size w3 wr)
          case atStart => exact ⟨0, rfl, Nat.zero_le _, rfl, by rw [mt_zero], HB4.out⟩
          case round =>
            obtain ⟨k2, rfl, hk, rfl, rfl, hb⟩ := hrel
            by_cases hkm : k2 < i
            · obtain ⟨x, hx⟩ : ∃ x, l[k2]? = some x := ⟨l[k2]'(by have := HG.out.2.2.2.2.1; omega), List.getElem?_eq_getElem _⟩
              obtain ⟨g3, rfl, d0, d1, d2⟩ := own_edge (trow_at (w' := wr) HG.out.2.2.1 fun b e => hb.block b (HG.out.2.2.1.lt b e).2) hx
              have hstep := mt_succ (f, lab, t) hx
              obtain ⟨x1, x2, x3⟩ := x
              simp only at d0 d1 d2
              have hbw := bel7 hb HG.out.2.2.2.2.2.1
              have y0 := cellu7 c0 hbw
              have y1 := cellu7 c1 hbw
              have y2 := cellu7 c2 hbw
              have s4 := cell_up (cell0_of (k := 3) HG.out.2.2.2.2.2.2 rfl) hb
              have k0 : (0 : Int) ≤ (k2 : Int) := by omega
              have k1 : (k2 : Int) < (i : Int) := by omega
              have HZ : Hid _ := And.intro hb (And.intro hstep trivial)
              clear hb hstep hx hbw s3
              generalize hfl : mt l (f, lab, t) k2 = fl at HZ ⊢
              clear hfl
              go_upto_region 31 with fail
              cases fl with
              | true =>
                go_quiet (fail)
                rename Nat => q5
                go_wp2_with fail
                go_roundg (i - (k2 + 1))
                case measure => omega
                case rel => exact ⟨k2 + 1, rfl, by omega, by go_num, by rw [HZ.out.2.1]; rfl, below_drewN HZ.out.1 _⟩
              | false =>
                by_cases g0 : x1 = f
                · subst g0
                  by_cases g1 : x2 = lab
                  · subst g1
                    by_cases g2 : x3 = t
                    · subst g2
                      go_quiet (fail)
                      rename Nat => q5
                      go_wp2_with fail
                      go_roundg (i - (k2 + 1))
                      case measure => omega
                      case rel => exact ⟨k2 + 1, rfl, by omega, by go_num, by rw [HZ.out.2.1]; simp, below_drewN HZ.out.1 _⟩
                    · have h2 : (x3 == t) = false := by simpa using g2
                      have HG2 : Hid (¬ x3 = t) := g2
                      clear g2
                      go_quiet (fail)
                      rename Nat => q5
                      go_wp2_with fail
                      go_roundg (i - (k2 + 1))
                      case measure => omega
                      case rel => exact ⟨k2 + 1, rfl, by omega, by go_num, by rw [HZ.out.2.1]; simp [HG2.out], below_drewN HZ.out.1 _⟩
                  · have h1 : (x2 == lab) = false := by simpa using g1
                    have HG1 : Hid (¬ x2 = lab) := g1
                    clear g1
                    go_quiet (fail)
                    rename Nat => q5
                    go_wp2_with fail
                    go_roundg (i - (k2 + 1))
                    case measure => omega
                    case rel => exact ⟨k2 + 1, rfl, by omega, by go_num, by rw [HZ.out.2.1]; simp [HG1.out], below_drewN HZ.out.1 _⟩
                · have h0 : (x1 == f) = false := by simpa using g0
                  have HG0 : Hid (¬ x1 = f) := g0
                  clear g0
                  go_quiet (fail)
                  rename Nat => q5
                  go_wp2_with fail
                  go_roundg (i - (k2 + 1))
                  case measure => omega
                  case rel => exact ⟨k2 + 1, rfl, by omega, by go_num, by rw [HZ.out.2.1]; simp [HG0.out], below_drewN HZ.out.1 _⟩
            · obtain rfl : k2 = i := by omega
              have k1 : ¬ (k2 : Int) < (k2 : Int) := by omega
              rw [mt_all HG.out.2.2.2.2.1 HZE.out]
              have HB5 : Hid _ := hb
              clear hb
              go_wp2_with fail
              go_roundg (N - (j + 1))
              case measure => omega
              case rel => exact ⟨j + 1, rfl, by omega, by go_num, HB5.out⟩
        · obtain rfl : j = N := by omega
          have p1 : ¬ (j : Int) < (j : Int) := by omega
          have HB4 : Hid _ := hb3
          clear hb3
          go_wp2_with fail
          clear s3
          go_loopg [6, 17] m (fun q nv iv wr => ∃ p : Nat, q = m - p ∧ p ≤ m ∧ iv = .int .i64 p ∧ nv = .int .i64 (Sy.cnt (Sy.nf es) (p : Int) : Nat) ∧ Below w3.heap.size w3 wr)
          case atStart => exact ⟨0, rfl, Nat.zero_le _, rfl, by show Value.int _ _ = .int .i64 (Sy.cnt (Sy.nf es) 0 : Nat); rw [Sy.cnt_nought HG.out.2.1]; rfl, HB4.out⟩
          case round =>
            obtain ⟨p, rfl, hp, rfl, rfl, hb⟩ := hrel
            clear HB4
            have s0 := cell_up (cell0_of (k := 0) HG.out.2.2.2.2.2.2 rfl) hb
            have hcl := Sy.cnt_le (Sy.nf es) (p : Int)
            have hcs := Sy.cnt_row (nf_rows es) (p : Int)
            have hsl := Sy.steps_len (Sy.nf es) (p : Int)
            have hsz := HG.out.1.sizes.2
            by_cases hpm : p < m
            · have r0 : (p : Int) < (m : Int) := by omega
              have HO : Hid _ := And.intro (out_any (p : Int) wr (HG.out.1.below hb)) hb
              rw [rowOf_in _ hpm] at HO
              obtain ⟨C, hC⟩ : ∃ C, C = Sy.cnt (Sy.nf es) (p : Int) := ⟨_, rfl⟩
              obtain ⟨R, hR⟩ : ∃ R, R = (Sy.steps (Sy.nf es) (p : Int)).length := ⟨_, rfl⟩
              rw [← hC]
              rw [← hC] at hcl hcs
              rw [← hR] at hcs hsl
              have HC : Hid (C + R = Sy.cnt (Sy.nf es) ((p : Int) + 1) ∧ R = (Sy.steps (Sy.nf es) (p : Int)).length) := ⟨hcs, hR⟩
              clear hb hcs hR hC
              go_wp2_with fail
              refine Calls.mono HO.out.1 ?_
              rintro r w5 ⟨u5, rfl, hO5, hb5⟩
              obtain ⟨a5, k5, hu5⟩ := row_shape hO5
              rw [← HC.out.2] at hu5
              subst hu5
              have HB6 : Hid (Below w3.heap.size w3 w5) := bel7 hb5 HO.out.2
              clear hO5 hb5 s0
              go_wp2_with fail
              go_roundg (m - (p + 1))
              case measure => omega
              case rel => exact ⟨p + 1, rfl, by omega, by go_num, by rw [show (((p + 1 : Nat) : Int)) = (p : Int) + 1 by omega, ← HC.out.1]; go_num, HB6.out⟩
            · obtain rfl : p = m := by omega
              have r0 : ¬ (p : Int) < (p : Int) := by omega
              rw [Sy.cnt_end HG.out.2.1, ← HG.out.2.2.2.1, ← HG.out.2.2.2.2.1]
              have HB6 : Hid _ := hb
              clear hb hcl hcs hsl
              go_wp2_with fail
              clear s0
              go_loopg [18, 19] p (fun q nv iv wr => ∃ p2 : Nat, q = p - p2 ∧ p2 ≤ p ∧ iv = .int .i64 p2 ∧ nv = .int .i64 (Sy.cnt (Sy.nf ((Sy.nf es).map Sy.turn)) (p2 : Int) : Nat) ∧ Below w3.heap.size w3 wr)
              case atStart => exact ⟨0, rfl, Nat.zero_le _, rfl, by show Value.int _ _ = .int .i64 (Sy.cnt (Sy.nf ((Sy.nf es).map Sy.turn)) 0 : Nat); rw [Sy.cnt_noughtIn HG.out.2.1]; rfl, HB6.out⟩
              case round =>
                obtain ⟨p2, rfl, hp2, rfl, rfl, hb⟩ := hrel
                clear HB6
                have s0 := cell_up (cell0_of (k := 0) HG.out.2.2.2.2.2.2 rfl) hb
                have hcl := Sy.cnt_le (Sy.nf ((Sy.nf es).map Sy.turn)) (p2 : Int)
                have hcs := Sy.cnt_row (nf_rows ((Sy.nf es).map Sy.turn)) (p2 : Int)
                have hsl := Sy.steps_len (Sy.nf ((Sy.nf es).map Sy.turn)) (p2 : Int)
                have htl := nf_turn_len es
                by_cases hpm2 : p2 < p
                · have r1 : (p2 : Int) < (p : Int) := by omega
                  have HO : Hid _ := And.intro (in_any (p2 : Int) wr (HG.out.1.below hb)) hb
                  rw [rowOf_in _ hpm2] at HO
                  obtain ⟨C, hC⟩ : ∃ C, C = Sy.cnt (Sy.nf ((Sy.nf es).map Sy.turn)) (p2 : Int) := ⟨_, rfl⟩
                  obtain ⟨R, hR⟩ : ∃ R, R = (Sy.steps (Sy.nf ((Sy.nf es).map Sy.turn)) (p2 : Int)).length := ⟨_, rfl⟩
                  rw [← hC]
                  rw [← hC] at hcl hcs
                  rw [← hR] at hcs hsl
                  have HC : Hid (C + R = Sy.cnt (Sy.nf ((Sy.nf es).map Sy.turn)) ((p2 : Int) + 1) ∧ R = (Sy.steps (Sy.nf ((Sy.nf es).map Sy.turn)) (p2 : Int)).length) := ⟨hcs, hR⟩
                  have hcl2 : C ≤ 10000 := by omega
                  have hsl2 : R ≤ 10000 := by omega
                  clear hb hcs hR hC htl hcl hsl
                  go_wp2_with fail
                  refine Calls.mono HO.out.1 ?_
                  rintro r w5 ⟨u5, rfl, hO5, hb5⟩
                  obtain ⟨a5, k5, hu5⟩ := row_shape hO5
                  rw [← HC.out.2] at hu5
                  subst hu5
                  have HB7 : Hid (Below w3.heap.size w3 w5) := bel7 hb5 HO.out.2
                  clear hO5 hb5 s0
                  go_wp2_with fail
                  go_roundg (p - (p2 + 1))
                  case measure => omega
                  case rel => exact ⟨p2 + 1, rfl, by omega, by go_num, by rw [show (((p2 + 1 : Nat) : Int)) = (p2 : Int) + 1 by omega, ← HC.out.1]; go_num, HB7.out⟩
                · obtain rfl : p2 = p := by omega
                  have r1 : ¬ (p2 : Int) < (p2 : Int) := by omega
                  rw [Sy.cnt_endIn HG.out.2.1, ← HG.out.2.2.2.1, ← HG.out.2.2.2.2.1]
                  have HB7 : Hid _ := bel7 hb HG.out.2.2.2.2.2.1
                  have y9 : ((i : Int) == (i : Int)) = true := by simp
                  clear hb hcl hcs hsl htl
                  go_wp2_with fail
                  refine Calls.mono (HA.out.1 _ HB7.out) ?_
                  rintro r w6 ⟨rfl, hb6⟩
                  have H6 : Hid _ := bel7 hb6 HB7.out
                  clear hb6
                  go_wp2_with fail
                  go_ret
                  exact ⟨rfl, H6.out⟩
theorem lawTurned_any (hS : SortOk 1000000) (n k s : Int) (v : Value) (es : List Sy.Ed) (e : Nat → Addr) (w : World) (hA : PAlive w) (hE : Er 19 w e) (hv : HasE w v es) :
    Calls Tryd.prog 4 #[sysV n k s v] w fun r w' => r = .returned (.bool true) ∧ Below w.heap.size w w' := by
  by_cases h1 : 300 < es.length ∨ 40 < n
  · exact lawTurned_out n k s v es w hA hv h1
  by_cases h2 : Sy.right n k s es = true
  · obtain ⟨m, rfl⟩ : ∃ m : Nat, n = m := ⟨n.toNat, by have := (right_parts h2).1; omega⟩
    exact lawTurned_ok hS m k s v es e w hA hE hv (by omega) (by omega) h2
  · exact lawTurned_bad hS n k s v es e w hA hE hv (by omega) (by omega) (by simpa using h2)
end Go.Proofs.YtmfcfiiggmkbpaaDoor
/- Contracts of slices' order2, median, medianAdjacent and choosePivot of edges by a view's comparison. (Written by mkpiv.py.) -/
namespace Go.Proofs.YtmfcfiiggmkbpaaDoor
open Go.RowKit Go.Maps
attribute [local go_sem ↓] Go.wp_at_zero Go.wp_at_succ
/-- The row, and a counter in a block of its own. -/
structure CnE (w0 wr : World) (g : Nat) (d : Array Sy.Ed) (rest : List Value) (c s : Nat) : Prop where
  row : RowE w0 wr g d rest
  cell : wr.heap[c]? = some (.cells #[.int .i64 s] 3 (0, 0))
  up : w0.heap.size ≤ c
theorem CnE.below {w0 wr w' : World} {g : Nat} {d : Array Sy.Ed} {rest : List Value} {c s : Nat} (h : CnE w0 wr g d rest c s) (hb : Below wr.heap.size wr w') : CnE w0 w' g d rest c s := ⟨h.row.below hb, (hb.block _ (t_lt h.cell)).trans h.cell, h.up⟩
theorem CnE.bump {w0 wr : World} {g : Nat} {d : Array Sy.Ed} {rest : List Value} {c s : Nat} (h : CnE w0 wr g d rest c s) (t : Nat) : CnE w0 (wr.setCell ⟨c, 0, none⟩ (.int .i64 t)) g d rest c t := by
  have hne : c ≠ g := fun e => by
    obtain ⟨cs, hc, _⟩ := h.row.ids
    have h1 := h.cell
    rw [e, hc] at h1
    injection h1 with h1
    injection h1 with _ h1
    exact absurd h1 (by decide)
  exact ⟨Arr.kept h.row (Kept.setCell _ _ _ _) fun b e => by subst e; exact ⟨h.up, hne⟩, heap_setCell_same _ _ 0 _ _ _ h.cell, h.up⟩
set_option maxRecDepth 100000 in
set_option maxHeartbeats 4000000 in
theorem order2_any (f : Nat) (vw : Sy.Ed → Sy.Ed) (hV : ViewAt f vw) (g cap a b c0 s : Nat) (d : Array Sy.Ed) (rest : List Value) (w0 w : World) (hR : CnE w0 w g d rest c0 s) (ha : a < d.size) (hb : b < d.size) (hs : s ≤ 1000000) :
    Calls Tryd.prog 88 #[.slice (some ⟨g, 0, none⟩) d.size cap, .int .i64 a, .int .i64 b, .pointer (some ⟨c0, 0, none⟩), cmpV f] w fun r w' => r = .returned (.tuple #[.int .i64 (Sort.order2 (ltV vw) d a b s).1, .int .i64 (Sort.order2 (ltV vw) d a b s).2.1]) ∧ CnE w0 w' g d rest c0 (Sort.order2 (ltV vw) d a b s).2.2 := by
  obtain ⟨n, hn⟩ : ∃ n, n = d.size := ⟨_, rfl⟩
  have HR : Hid _ := And.intro hR (And.intro hn hV)
  rw [← hn] at ha hb ⊢
  unfold cmpV Sort.order2
  have he := enter_cmp
  obtain ⟨x0, x1, x2⟩ := hR.row.cells (j := b) (by omega)
  obtain ⟨y0, y1, y2⟩ := hR.row.cells (j := a) (by omega)
  have hcm := fun W => compare_any f vw HR.out.2.2 (d[b]!) (d[a]!) W
  unfold edV at hcm
  have hlt2 := cmpV_neg vw (d[b]!) (d[a]!)
  obtain ⟨xe, hxe⟩ : ∃ xe, xe = d[b]! := ⟨_, rfl⟩
  obtain ⟨ye, hye⟩ : ∃ ye, ye = d[a]! := ⟨_, rfl⟩
  rw [← hxe] at x0 x1 x2 hcm hlt2
  rw [← hye] at y0 y1 y2 hcm hlt2
  have HE : Hid _ := And.intro hxe hye
  clear hxe hye
  obtain ⟨xa, xb, xc⟩ := xe
  obtain ⟨ya, yb, yc⟩ := ye
  generalize cmpE (vw (xa, xb, xc)) (vw (ya, yb, yc)) = c at hcm hlt2
  have HC : Hid _ := hcm
  have HL : Hid _ := hlt2
  clear hcm hlt2
  simp only at x0 x1 x2 y0 y1 y2
  clear hR hn hV
  have p0 : (0 : Int) ≤ (b : Int) := by omega
  have p1 : (b : Int) < (n : Int) := by omega
  have p2 : (0 : Int) ≤ (a : Int) := by omega
  have p3 : (a : Int) < (n : Int) := by omega
  by_cases hc : c < 0
  · have p6 : decide (c < 0) = true := decide_eq_true hc
    rw [if_pos (by rw [← HE.out.1, ← HE.out.2]; exact HL.out.1 hc)]
    go_enter Tryd.func88, Tryd.ntmps88
    go_upto_region 1 with fail
    go_region_held3 (fun w' => ((w'.cell? ⟨g, b * 3, none⟩ = some (.int .i64 xa) ∧ w'.cell? ⟨g, b * 3 + 1, none⟩ = some (.int .i64 xb) ∧ w'.cell? ⟨g, b * 3 + 2, none⟩ = some (.int .i64 xc)) ∧ (w'.cell? ⟨g, a * 3, none⟩ = some (.int .i64 ya) ∧ w'.cell? ⟨g, a * 3 + 1, none⟩ = some (.int .i64 yb) ∧ w'.cell? ⟨g, a * 3 + 2, none⟩ = some (.int .i64 yc))) ∧ Hid (Below w.heap.size w w')) (first | exact rg_up6 hb3 (by assumption) | exact ⟨⟨⟨x0, x1, x2⟩, ⟨y0, y1, y2⟩⟩, ((Below.refl _ _).drew : Below w.heap.size w w.drew)⟩ | go_keep)
      ((first
        | (go_at_fn 44; refine (HC.out _).mono ?_; rintro r w3 ⟨rfl, hb3⟩)
        | fail))
    have hbq : Below w.heap.size w w3 := rg_b (by assumption)
    clear x0 x1 x2 y0 y1 y2 hb3 HC
    rename_i hS3
    clear hS3
    have hR3 := HR.out.1.below hbq
    have k0 : w3.cell? ⟨c0, 0, none⟩ = some (.int .i64 s) := cell0_of hR3.cell rfl
    have k1 := blk_free hR3.cell 0
    have p8 : IntKind.i64.wrap ((s : Int) + 1) = (s : Int) + 1 := by rw [IntKind.wrap_i64]; omega
    have H3 : Hid _ := hR3
    clear hR3 hbq
    go_wp2_with fail
    go_ret2
    exact ⟨rfl, H3.out.bump (s + 1)⟩
  · have p6 : decide (c < 0) = false := decide_eq_false hc
    rw [if_neg (by rw [← HE.out.1, ← HE.out.2]; intro h; exact hc (HL.out.2 h))]
    go_enter Tryd.func88, Tryd.ntmps88
    go_upto_region 1 with fail
    go_region_held3 (fun w' => ((w'.cell? ⟨g, b * 3, none⟩ = some (.int .i64 xa) ∧ w'.cell? ⟨g, b * 3 + 1, none⟩ = some (.int .i64 xb) ∧ w'.cell? ⟨g, b * 3 + 2, none⟩ = some (.int .i64 xc)) ∧ (w'.cell? ⟨g, a * 3, none⟩ = some (.int .i64 ya) ∧ w'.cell? ⟨g, a * 3 + 1, none⟩ = some (.int .i64 yb) ∧ w'.cell? ⟨g, a * 3 + 2, none⟩ = some (.int .i64 yc))) ∧ Hid (Below w.heap.size w w')) (first | exact rg_up6 hb3 (by assumption) | exact ⟨⟨⟨x0, x1, x2⟩, ⟨y0, y1, y2⟩⟩, ((Below.refl _ _).drew : Below w.heap.size w w.drew)⟩ | go_keep)
      ((first
        | (go_at_fn 44; refine (HC.out _).mono ?_; rintro r w3 ⟨rfl, hb3⟩)
        | fail))
    have hbq : Below w.heap.size w w3 := rg_b (by assumption)
    clear x0 x1 x2 y0 y1 y2 hb3 HC
    rename_i hS3
    clear hS3
    have H3 : Hid _ := HR.out.1.below hbq
    clear hbq
    go_wp2_with fail
    go_ret2
    exact ⟨rfl, H3.out⟩
theorem o2_lt {lt : Sy.Ed → Sy.Ed → Bool} {d : Array Sy.Ed} {a b s n : Nat} (ha : a < n) (hb : b < n) : (Sort.order2 lt d a b s).1 < n ∧ (Sort.order2 lt d a b s).2.1 < n ∧ (Sort.order2 lt d a b s).2.2 ≤ s + 1 := by
  unfold Sort.order2
  split <;> simp [ha, hb]
set_option maxRecDepth 100000 in
set_option maxHeartbeats 4000000 in
theorem median_any (f : Nat) (vw : Sy.Ed → Sy.Ed) (hV : ViewAt f vw) (g cap a b c c0 s : Nat) (d : Array Sy.Ed) (rest : List Value) (w0 w : World) (hR : CnE w0 w g d rest c0 s) (ha : a < d.size) (hb : b < d.size) (hc : c < d.size) (hs : s + 3 ≤ 1000000) :
    Calls Tryd.prog 87 #[.slice (some ⟨g, 0, none⟩) d.size cap, .int .i64 a, .int .i64 b, .int .i64 c, .pointer (some ⟨c0, 0, none⟩), cmpV f] w fun r w' => r = .returned (.int .i64 (Sort.median (ltV vw) d a b c s).1) ∧ CnE w0 w' g d rest c0 (Sort.median (ltV vw) d a b c s).2 := by
  have h1 := order2_any f vw hV g cap a b c0 s d rest w0 w hR ha hb (by omega)
  obtain ⟨l1, l2, l3⟩ := o2_lt (lt := ltV vw) (d := d) (s := s) ha hb
  unfold Sort.median
  generalize Sort.order2 (ltV vw) d a b s = r1 at h1 l1 l2 l3 ⊢
  obtain ⟨a1, b1, s1⟩ := r1
  simp only at h1 l1 l2 l3 ⊢
  have h2 := fun W (h : CnE w0 W g d rest c0 s1) => order2_any f vw hV g cap b1 c c0 s1 d rest w0 W h l2 hc (by omega)
  obtain ⟨l4, l5, l6⟩ := o2_lt (lt := ltV vw) (d := d) (s := s1) l2 hc
  generalize Sort.order2 (ltV vw) d b1 c s1 = r2 at h2 l4 l5 l6 ⊢
  obtain ⟨b2, c2, s2⟩ := r2
  simp only at h2 l4 l5 l6 ⊢
  have h3 := fun W (h : CnE w0 W g d rest c0 s2) => order2_any f vw hV g cap a1 b2 c0 s2 d rest w0 W h l1 l4 (by omega)
  generalize Sort.order2 (ltV vw) d a1 b2 s2 = r3 at h3 ⊢
  obtain ⟨a3, b3, s3⟩ := r3
  simp only at h3 ⊢
  have HH : Hid _ := And.intro h1 (And.intro h2 h3)
  unfold cmpV at HH ⊢
  clear h1 h2 h3 hR hV l1 l2 l3 l4 l5 l6
  go_enter Tryd.func87, Tryd.ntmps87
  go_wp2_with fail
  refine Calls.mono HH.out.1 ?_
  rintro r w1 ⟨rfl, hR1⟩
  go_wp2_with fail
  refine Calls.mono (HH.out.2.1 _ hR1) ?_
  rintro r w2 ⟨rfl, hR2⟩
  go_wp2_with fail
  refine Calls.mono (HH.out.2.2 _ hR2) ?_
  rintro r w3 ⟨rfl, hR3⟩
  go_wp2_with fail
  go_ret
  exact ⟨rfl, hR3⟩
set_option maxRecDepth 100000 in
set_option maxHeartbeats 4000000 in
theorem medianAdj_any (f : Nat) (vw : Sy.Ed → Sy.Ed) (hV : ViewAt f vw) (g cap a c0 s : Nat) (d : Array Sy.Ed) (rest : List Value) (w0 w : World) (hR : CnE w0 w g d rest c0 s) (ha : 1 ≤ a) (hb : a + 1 < d.size) (hsz : d.size ≤ 1000000) (hs : s + 3 ≤ 1000000) :
    Calls Tryd.prog 86 #[.slice (some ⟨g, 0, none⟩) d.size cap, .int .i64 a, .pointer (some ⟨c0, 0, none⟩), cmpV f] w fun r w' => r = .returned (.int .i64 (Sort.medianAdjacent (ltV vw) d a s).1) ∧ CnE w0 w' g d rest c0 (Sort.medianAdjacent (ltV vw) d a s).2 := by
  obtain ⟨p, rfl⟩ : ∃ p, a = p + 1 := ⟨a - 1, by omega⟩
  have h1 := median_any f vw hV g cap p (p + 1) (p + 1 + 1) c0 s d rest w0 w hR (by omega) (by omega) (by omega) hs
  unfold Sort.medianAdjacent
  rw [Nat.add_sub_cancel]
  generalize Sort.median (ltV vw) d p (p + 1) (p + 1 + 1) s = r1 at h1 ⊢
  obtain ⟨m1, s1⟩ := r1
  have e1 : IntKind.i64.wrap (((p + 1 : Nat) : Int) - 1) = (p : Int) := by rw [IntKind.wrap_i64]; omega
  have e2 : IntKind.i64.wrap (((p + 1 : Nat) : Int) + 1) = ((p + 1 + 1 : Nat) : Int) := by rw [IntKind.wrap_i64]; omega
  have HH : Hid _ := h1
  unfold cmpV at HH ⊢
  clear h1 hR hV
  go_enter Tryd.func86, Tryd.ntmps86
  go_wp2_with fail
  have HH2 := HH.out
  simp only [Int.natCast_add, Int.natCast_one] at HH2 ⊢
  refine Calls.mono HH2 ?_
  rintro r w1 ⟨rfl, hR1⟩
  go_wp2_with fail
  go_ret
  exact ⟨rfl, hR1⟩
end Go.Proofs.YtmfcfiiggmkbpaaDoor
