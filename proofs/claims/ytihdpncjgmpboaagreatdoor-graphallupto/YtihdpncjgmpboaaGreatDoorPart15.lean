/- Texts of this claim, joined: SyCup, SyOne0, SyNum, SyEq. -/
import Derived.Test.YtihdpncjgmpboaaGreatDoorPart14
import Derived.Deep.DeepCutAuto
import Derived.Test.YtihdpncjgmpboaaGreatDoorPart9
import Derived.Maps.OwnSet
import Derived.WalkSmall
import Derived.Test.YtihdpncjgmpboaaGreatDoorPart0
import Derived.Deep.LoopGhost
import Derived.Deep.QuietTactic
import Derived.BigQuiet
/- Contract of the program's Cut. (Written by mkcup.py.) -/
namespace Go.Proofs.YtihdpncjgmpboaaGreatDoor
open Go.RowKit Go.Maps
attribute [local go_sem ↓] Go.wp_at_zero Go.wp_at_succ
theorem bel9 {w W w8 : World} (hb : Below W.heap.size W w8) (h : Below w.heap.size w W) : Below w.heap.size w w8 := h.trans (hb.mono h.size)
theorem res_up9 {W w8 : World} {b : Nat} {o : Obj} (hb : Below W.heap.size W w8) (h : W.heap[b]? = some o) : w8.heap[b]? = some o := (hb.block b (t_lt h)).trans h
set_option maxRecDepth 100000 in
theorem labels_any {B g bs bb cs cb n : Nat} {k s : Int} {es : List Sy.Ed} (w : World) (h : Gr w B g bs bb cs cb n k s es) : Calls Tryz.prog 34 #[.pointer (some ⟨g, 0, none⟩)] w fun r w' => r = .returned (.int .i64 k) ∧ w' = w := by
  obtain ⟨_, c1, _, _, _, _⟩ := h.cells
  have hq := Tryz.eqG g
  clear h
  go_enter Tryz.func34, Tryz.ntmps34
  go_wp2
  go_ret
  exact ⟨rfl, rfl⟩
/-- What stands in memory while Cut gathers the edges. -/
structure CuAt (w wr : World) (b8 : Nat) (ur un u : Value) (ms : List Bool) (c : Nat) (k st : Int) (ys : List Sy.Ed) : Prop where
  bl : Below w.heap.size w wr
  rr : OwnI wr w.heap.size ur (Sy.marked ms)
  nn : OwnI wr w.heap.size un (Sy.ranks ms)
  rs : wr.heap[w.heap.size]? = some (.cells #[.int .i64 0, .int .i64 0, .int .i64 0, .slice none 0 0] 24 (0, 0))
  bx : wr.heap[b8]? = some (.cells #[.int .i64 c, .int .i64 k, .int .i64 st, u] 24 (0, 0))
  eo : BEdges.Own wr w.heap.size u ys
  hb : w.heap.size < b8
theorem CuAt.below {w wr w' : World} {b8 : Nat} {ur un u : Value} {ms : List Bool} {c : Nat} {k st : Int} {ys : List Sy.Ed} (h : CuAt w wr b8 ur un u ms c k st ys) (hb : Below wr.heap.size wr w') : CuAt w w' b8 ur un u ms c k st ys :=
  ⟨bel9 hb h.bl, trow_at h.rr fun b e => hb.block b (h.rr.lt b e).2, trow_at h.nn fun b e => hb.block b (h.nn.lt b e).2, res_up9 hb h.rs, res_up9 hb h.bx, trow_at h.eo fun b e => hb.block b (h.eo.lt b e).2, h.hb⟩
theorem CuAt.push {w wr w4 : World} {b8 : Nat} {ur un u u2 : Value} {ms : List Bool} {c : Nat} {k st : Int} {ys : List Sy.Ed} {N : Nat} {z : Sy.Ed} (h : CuAt w wr b8 ur un u ms c k st ys) (hN : N = ys.length) (hown : w4.ownsRow w.heap.size 65 3 u2 (N + 1) (BEdges.C ys ++ BEdges.enc z)) (hk : Kept (fun b => u.ownBlock = some b) wr w4) : CuAt w (w4.setCell ⟨b8, 3, none⟩ u2) b8 ur un u2 ms c k st (ys ++ [z]) := by
  have hO : BEdges.Own w4 w.heap.size u2 (ys ++ [z]) := by
    unfold BEdges.Own
    rw [BEdges.C_snoc, List.length_append, ← hN]
    exact hown
  have hbx4 : w4.heap[b8]? = some (.cells #[.int .i64 c, .int .i64 k, .int .i64 st, u] 24 (0, 0)) := (hk.block b8 (t_lt h.bx) (own_bk h.eo h.bx (by decide))).trans h.bx
  have hr4 : OwnI w4 w.heap.size ur (Sy.marked ms) := own_up h.rr hk fun b e => own_ne h.rr h.eo (by decide) b e
  have hn4 : OwnI w4 w.heap.size un (Sy.ranks ms) := own_up h.nn hk fun b e => own_ne h.nn h.eo (by decide) b e
  have hs4 := (hk.block w.heap.size (t_lt h.rs) (own_bk h.eo h.rs (by decide))).trans h.rs
  refine ⟨(h.bl.trans (hk.below h.bl.size fun b hb => (h.eo.lt b hb).1)).setCell (Nat.le_of_lt h.hb) _, trow_at hr4 fun b e => set_other _ _ _ _ _ (fun q => own_bk hr4 hbx4 (by decide) (q ▸ e)), trow_at hn4 fun b e => set_other _ _ _ _ _ (fun q => own_bk hn4 hbx4 (by decide) (q ▸ e)), (set_other _ _ _ _ _ (by have := h.hb; omega)).trans hs4, ?_, trow_at hO fun b e => set_other _ _ _ _ _ (fun q => own_bk hO hbx4 (by decide) (q ▸ e)), h.hb⟩
  exact heap_setCell_same w4 b8 3 _ _ u2 hbx4
theorem iC_set (l : List Int) (p : Nat) (x : Int) : (iC l).set p (.int .i64 x) = iC (l.set p x) := by unfold iC; rw [List.map_set]
theorem start_rea {es : List Sy.Ed} {s : Int} {n p : Nat} {ms : List Bool} (hs : s = (p : Int)) (hp : p < n) (h : ∀ q : Nat, q < n → (ms[q]? = some true ↔ Sy.Rea es s q)) : ms[p]? = some true := (h p hp).2 (by rw [hs]; exact Sy.Rea.start)
set_option maxRecDepth 100000 in
set_option maxHeartbeats 16000000 in
set_option linter.unusedSimpArgs false in
theorem cut_any {B g bs bb cs cb n : Nat} {k s : Int} {es : List Sy.Ed} (w : World) (h : Gr w B g bs bb cs cb n k s es) : Calls Tryz.prog 15 #[.pointer (some ⟨g, 0, none⟩)] w fun r w' => ∃ (ms : List Bool) (u va : Value), r = .returned (.tuple #[sysV (ms.count true : Nat) k (Sy.startOf n ms s) u, va]) ∧ ms.length = n ∧ (∀ p : Nat, p < n → (ms[p]? = some true ↔ Sy.Rea es s p)) ∧ BEdges.Own w' w.heap.size u (Sy.cutE ms (Sy.nf es)) ∧ OwnI w' w.heap.size va (Sy.ranks ms) ∧ Below w.heap.size w w' := by
  obtain ⟨i0, hi0, hz0, hz1, hz2⟩ := info_parts BEdges.Tryz.infoE
  have hs := h.sizes
  have hrp := right_parts h.right
  have hn : n ≤ 1000 := hs.1
  obtain ⟨w1, hw1⟩ : ∃ w1, w1 = w.alloc (.cells #[.int .i64 0, .int .i64 0, .int .i64 0, .slice none 0 0] 24) := ⟨_, rfl⟩
  have hb1 : Below w.heap.size w w1 := by rw [hw1]; exact (Below.refl _ _).alloc (Nat.le_refl _) _
  have hg1 : w1.heap[w.heap.size]? = some (.cells #[.int .i64 0, .int .i64 0, .int .i64 0, .slice none 0 0] 24 (0, 0)) := by rw [hw1]; exact heap_alloc_new w _
  have HG : Hid (Gr w B g bs bb cs cb n k s es ∧ (Sy.nf es).length ≤ 10000) := ⟨h, hs.2⟩
  have H1 : Hid _ := And.intro hw1 (And.intro hb1 (And.intro hg1 (reach_any w1 (h.below hb1))))
  have HR : Hid _ := hrp
  clear h hs hw1 hb1 hg1 hrp
  go_enter Tryz.func15, Tryz.ntmps15
  go_wp2_with fail
  rw [← H1.out.1]
  refine Calls.mono H1.out.2.2.2 ?_
  rintro r w2 ⟨ur, ms, rfl, hO2, hml, hms, hb2⟩
  obtain ⟨ar, kr, hur⟩ := row_shape hO2
  obtain ⟨N, hN⟩ : ∃ N, N = (Sy.marked ms).length := ⟨_, rfl⟩
  rw [← hN] at hur
  subst hur
  have hNc : N = ms.count true := by rw [hN, Sy.marked_len]
  have hNn : N ≤ n := by rw [hNc, ← hml]; exact List.count_le_length
  obtain ⟨w3, hw3⟩ : ∃ w3, w3 = w2.alloc (.cells #[.int .i64 (-1)] 3) := ⟨_, rfl⟩
  have hb3 : Below w2.heap.size w2 w3 := by rw [hw3]; exact (Below.refl _ _).alloc (Nat.le_refl _) _
  have hg3 : w3.heap[w2.heap.size]? = some (.cells #[.int .i64 (-1)] 3 (0, 0)) := by rw [hw3]; exact heap_alloc_new w2 _
  have hb13 := bel9 hb3 hb2
  have hG3 := HG.out.1.below (bel9 hb13 H1.out.2.1)
  have hSt := states_any w3 hG3
  have hRp := repeat_any w2.heap.size n w3 (by omega) (cell0_of hg3 rfl)
  have H3 : Hid (w3 = w2.alloc (.cells #[.int .i64 (-1)] 3) ∧ Below w.heap.size w w3 ∧ OwnI w3 w1.heap.size (.slice ar N kr) (Sy.marked ms) ∧ w3.heap[w.heap.size]? = some (.cells #[.int .i64 0, .int .i64 0, .int .i64 0, .slice none 0 0] 24 (0, 0)) ∧ Gr w3 B g bs bb cs cb n k s es ∧ w.heap.size < w1.heap.size) := ⟨hw3, bel9 hb13 H1.out.2.1, trow_at hO2 fun b e => hb3.block b (hO2.lt b e).2, res_up9 hb13 H1.out.2.2.1, hG3, t_lt H1.out.2.2.1⟩
  have HC : Hid _ := And.intro hSt hRp
  have HMs : Hid (ms.length = n ∧ (∀ p : Nat, p < n → (ms[p]? = some true ↔ Sy.Rea es s p)) ∧ N = ms.count true ∧ N = (Sy.marked ms).length) := ⟨hml, hms, hNc, hN⟩
  clear hO2 hml hms hb2 hN hNc hw3 hb3 hg3 hb13 hG3 hSt hRp H1
  go_wp2_with (first
    | (go_at_call 31; rw [← H3.out.1]; refine Calls.mono HC.out.1 ?_; rintro r w9 ⟨rfl, hw9⟩; obtain rfl := hw9.symm; clear hw9)
    | (go_at_call 33; refine Calls.mono HC.out.2 ?_; rintro r w4 ⟨ga, rfl, hA4⟩; have H4 : Hid _ := hA4; clear hA4)
    | fail)
  go_loopg [21] N (fun q iv wr => ∃ i : Nat, q = N - i ∧ i ≤ N ∧ iv = .int .i64 i ∧ Arr 3 w3 wr ga (iC (Sy.numL n ms i)))
  case atStart => exact ⟨0, rfl, Nat.zero_le _, rfl, by rw [Sy.numL_zero]; have h9 := H4.out; unfold iC; rw [List.map_replicate]; exact h9⟩
  case round =>
    obtain ⟨i, rfl, hi, rfl, hA⟩ := hrel
    clear H4
    by_cases hlt : i < N
    · obtain ⟨z, hz⟩ : ∃ z, (Sy.marked ms)[i]? = some z := ⟨(Sy.marked ms)[i]'(by have := HMs.out.2.2.2; omega), List.getElem?_eq_getElem _⟩
      obtain ⟨p, rfl, hpl, hpt, hpc⟩ := Sy.marked_at hz
      have hpn : p < n := by have := HMs.out.1; omega
      obtain ⟨gr, rfl, c0⟩ := own_num (trow_at (w' := wr) H3.out.2.2.1 fun b e => hA.bl.block b (H3.out.2.2.1.lt b e).2) hz
      obtain ⟨x, hx⟩ : ∃ x, (iC (Sy.numL n ms i))[p]? = some x := ⟨_, List.getElem?_eq_getElem (by rw [iC_length, Sy.numL_len]; omega)⟩
      have c1 := hA.cell hx
      have f1 := hA.free p
      have hA2 := hA.set p (.int .i64 i)
      rw [iC_set, Sy.numL_set hpt hpc HMs.out.1] at hA2
      have p0 : (0 : Int) ≤ (i : Int) := by omega
      have p1 : (i : Int) < (N : Int) := by omega
      have p2 : (0 : Int) ≤ (p : Int) := by omega
      have p3 : (p : Int) < (n : Int) := by omega
      have HA : Hid _ := hA2
      clear hA hA2 hz hx hpl hpt hpc
      go_wp2_with fail
      go_roundg (N - (i + 1))
      case measure => omega
      case rel => exact ⟨i + 1, rfl, by omega, by go_num, HA.out⟩
    · obtain rfl : i = N := by omega
      have p1 : ¬ (i : Int) < (i : Int) := by omega
      have hcn := HMs.out.2.2.1
      rw [hcn, Sy.numL_full HMs.out.1] at hA
      have hG := H3.out.2.2.2.2.1.below hA.bl
      obtain ⟨_, _, s2, _, _, _⟩ := hG.cells
      have hLb := labels_any wr hG
      obtain ⟨w5, hw5⟩ : ∃ w5, w5 = wr.alloc (.cells #[.int .i64 i, .int .i64 k, .int .i64 0, .slice none 0 0] 24) := ⟨_, rfl⟩
      have hb5 : Below wr.heap.size wr w5 := by rw [hw5]; exact (Below.refl _ _).alloc (Nat.le_refl _) _
      have hg5 : w5.heap[wr.heap.size]? = some (.cells #[.int .i64 i, .int .i64 k, .int .i64 0, .slice none 0 0] 24 (0, 0)) := by rw [hw5]; exact heap_alloc_new wr _
      have hOn : OwnI wr w3.heap.size (.slice (some ⟨ga, 0, none⟩) n n) (Sy.ranks ms) := by
        have h9 := hA.own (by rw [iC_length, Sy.ranks_len, HMs.out.1]; unfold maxLen; omega)
        rw [iC_length, Nat.mul_one, Sy.ranks_len, HMs.out.1] at h9
        unfold OwnI
        rw [Sy.ranks_len, HMs.out.1]
        exact h9
      have s1 := H3.out.2.1.size
      have hb35 := bel9 hb5 hA.bl
      have hC5 : CuAt w w5 wr.heap.size (.slice ar i kr) (.slice (some ⟨ga, 0, none⟩) n n) (.slice none 0 0) ms i k 0 [] := ⟨bel9 hb35 H3.out.2.1, row_base (trow_at (w' := w5) H3.out.2.2.1 fun b e => hb35.block b (H3.out.2.2.1.lt b e).2) (Nat.le_of_lt H3.out.2.2.2.2.2), row_base (trow_at (w' := w5) hOn fun b e => hb5.block b (hOn.lt b e).2) s1, res_up9 hb35 H3.out.2.2.2.1, hg5, World.ownsRow_nil _ _ _ _, by have := hA.bl.size; have := t_lt H3.out.2.2.2.1; omega⟩
      have H5 : Hid (w5 = wr.alloc (.cells #[.int .i64 i, .int .i64 k, .int .i64 0, .slice none 0 0] 24) ∧ CuAt w w5 wr.heap.size (.slice ar i kr) (.slice (some ⟨ga, 0, none⟩) n n) (.slice none 0 0) ms i k 0 []) := ⟨hw5, hC5⟩
      have HLb : Hid _ := hLb
      have t2 := cell_up s2 hb5
      have d2 := cell0_of (k := 2) hg5 rfl
      have fz := blk_free hg5 2
      obtain ⟨b8, hb8⟩ : ∃ b8, b8 = wr.heap.size := ⟨_, rfl⟩
      rw [← hb8] at H5 d2 fz
      have HB8 : Hid _ := hb8
      obtain ⟨wz, rfl⟩ : ∃ wz, wz = wr := ⟨_, rfl⟩
      clear hA hG hLb hw5 hb5 hg5 hOn s1 hb35 hC5 s2 hcn
      go_upto_if 38 with (go_at_call 34; refine Calls.mono HLb.out ?_; rintro r w9 ⟨rfl, hw9⟩; obtain rfl := hw9.symm; clear hw9)
      rw [← hb8, ← H5.out.1]
      clear hb8
      go_cut [38] (fun s38 wx => CuAt w wx b8 (.slice ar i kr) (.slice (some ⟨ga, 0, none⟩) n n) (.slice none 0 0) ms i k (Sy.startOf n ms s) [])
      case first =>
        by_cases hz : i = 0
        · have e0 : ¬ (0 : Int) < (i : Int) := by omega
          have hst : Sy.startOf n ms s = 0 := by
            unfold Sy.startOf
            by_cases hn0 : 0 < n
            · obtain ⟨p, hp⟩ : ∃ p : Nat, s = (p : Int) := ⟨s.toNat, by have := HR.out.2.2.2.2.1 (by omega); omega⟩
              have hpn : p < n := by have := HR.out.2.2.2.2.1 (by omega); omega
              have h1 := Sy.count_step (start_rea hp hpn HMs.out.2.1)
              have h2 := Sy.count_mono ms (show p + 1 ≤ ms.length by have := HMs.out.1; omega)
              rw [List.take_length] at h2
              have h3 := HMs.out.2.2.1
              omega
            · rw [if_neg hn0]
          have Hst : Hid _ := And.intro hst hz
          clear hst hz
          go_wp2_with fail
          go_meet
          rw [Hst.out.1]
          exact H5.out.2
        · have e0 : (0 : Int) < (i : Int) := by omega
          have hn0 : 0 < n := by omega
          obtain ⟨p, hp⟩ : ∃ p : Nat, s = (p : Int) := ⟨s.toNat, by have := HR.out.2.2.2.2.1 (by omega); omega⟩
          have hpn : p < n := by have := HR.out.2.2.2.2.1 (by omega); omega
          have hst : Sy.startOf n ms s = Sy.rk ms (p : Int) := by unfold Sy.startOf; rw [if_pos hn0, hp]
          obtain ⟨ga', hga', cn⟩ := own_num H5.out.2.nn (Sy.rk_at (i := p) (by have := HMs.out.1; omega))
          obtain rfl : ga = ga' := by injection hga' with e1; injection e1
          rw [hp] at t2
          have p2 : (0 : Int) ≤ (p : Int) := by omega
          have p3 : (p : Int) < (n : Int) := by omega
          obtain ⟨rp, hrp⟩ : ∃ rp, rp = Sy.rk ms (p : Int) := ⟨_, rfl⟩
          rw [← hrp] at cn hst
          have Hst : Hid (Sy.startOf n ms s = rp) := hst
          clear hst hrp hga' hp
          go_wp2_with fail
          go_meet
          rw [Hst.out]
          have h := H5.out.2
          have h3 := heap_setCell_same w5 b8 2 _ _ (.int .i64 rp) h.bx
          refine ⟨h.bl.setCell (Nat.le_of_lt h.hb) _, trow_at h.rr fun b e => set_other _ _ _ _ _ (fun q => own_bk h.rr h.bx (by decide) (q ▸ e)), trow_at h.nn fun b e => set_other _ _ _ _ _ (fun q => own_bk h.nn h.bx (by decide) (q ▸ e)), (set_other _ _ _ _ _ (by have := h.hb; omega)).trans h.rs, h3, World.ownsRow_nil _ _ _ _, h.hb⟩
      case rest =>
        have H6 : Hid _ := hcut
        obtain ⟨st, hst⟩ : ∃ st, st = Sy.startOf n ms s := ⟨_, rfl⟩
        rw [← hst] at H6
        have Hst : Hid (st = Sy.startOf n ms s) := hst
        clear hcut H5 HLb t2 d2 fz hst
        obtain ⟨l, hl⟩ : ∃ l, l = Sy.nf es := ⟨_, rfl⟩
        have HL : Hid (l = Sy.nf es ∧ Sy.Rows l ∧ l.length ≤ 10000) := (by rw [hl]; exact ⟨rfl, nf_rows es, HG.out.2⟩ : l = Sy.nf es ∧ Sy.Rows l ∧ l.length ≤ 10000)
        clear hl
        go_wp2_with fail
        go_loopg [49] i (fun q iv wr => ∃ (j a : Nat) (u : Value), q = i - j ∧ j ≤ i ∧ iv = .int .i64 j ∧ CuAt w wr b8 (.slice ar i kr) (.slice (some ⟨ga, 0, none⟩) n n) u ms i k st (Sy.upE ms l a) ∧ a ≤ n ∧ (ms.take a).count true = j)
        case atStart => exact ⟨0, 0, _, rfl, Nat.zero_le _, rfl, by
          have h9 := H6.out
          have e9 : Sy.upE ms l 0 = [] := by
            unfold Sy.upE
            rw [HL.out.1]
            show Sy.cutE ms ((Sy.nf es).take (Sy.cnt (Sy.nf es) 0)) = []
            rw [Sy.take_none HG.out.1.right]
            rfl
          rw [e9]
          exact h9, Nat.zero_le _, by simp⟩
        case round =>
          obtain ⟨j, a, u, rfl, hj, rfl, hC, han, hac⟩ := hrel
          clear H6
          by_cases hlt : j < i
          · obtain ⟨z, hz⟩ : ∃ z, (Sy.marked ms)[j]? = some z := ⟨(Sy.marked ms)[j]'(by have := HMs.out.2.2.2; omega), List.getElem?_eq_getElem _⟩
            obtain ⟨p, rfl, hpl, hpt, hpc⟩ := Sy.marked_at hz
            have hpn : p < n := by have := HMs.out.1; omega
            obtain ⟨gr, rfl, c0⟩ := own_num hC.rr hz
            have hap : a ≤ p := by
              rcases Nat.lt_or_ge p a with h1 | h1
              · have h2 := Sy.count_step hpt
                have h3 := Sy.count_mono ms (show p + 1 ≤ a by omega)
                omega
              · exact h1
            rw [Sy.upE_skip HL.out.2.1 p hap (by omega) (by omega)] at hC
            have hG := HG.out.1.below hC.bl
            obtain ⟨_, _, _, ⟨c3, c4⟩, _, _⟩ := hG.cells
            have hR := hG.row (p : Int)
            have hT := hG.out
            rw [rowOf_in _ hpn, ← HL.out.1] at hR
            rw [← HL.out.1] at c3
            obtain ⟨Ln, hLn⟩ : ∃ Ln, Ln = l.length := ⟨_, rfl⟩
            rw [← hLn] at hR c3
            have p0 : (0 : Int) ≤ (j : Int) := by omega
            have p1 : (j : Int) < (i : Int) := by omega
            have HRr : Hid _ := And.intro hR (And.intro hC hT)
            have HP : Hid (ms[p]? = some true ∧ (ms.take p).count true = j ∧ Sy.rk ms (p : Int) = (j : Int)) := ⟨hpt, hpc, by rw [Sy.rk_val hpl, if_pos hpt, hpc]⟩
            obtain ⟨wy, rfl⟩ : ∃ wy, wy = wr := ⟨_, rfl⟩
            clear hz hpl hpt hpc hap hG hR hT hC hLn han hac
            go_wp2_with fail
            refine Calls.mono HRr.out.1 ?_
            rintro r w6 ⟨v6, rfl, hv6, hb6⟩
            obtain ⟨av, cv, rfl, _⟩ := hv6 wy (by rw [HL.out.1]; exact HRr.out.2.2)
            obtain ⟨M, hM⟩ : ∃ M, M = (Sy.steps l (p : Int)).length := ⟨_, rfl⟩
            rw [← hM]
            rw [← hM] at hv6
            have hMl : M ≤ 10000 := by have := Sy.steps_len l (p : Int); have := HL.out.2.2; omega
            have H7 : Hid _ := And.intro hv6 (And.intro (HRr.out.2.1.below hb6) hM)
            clear hv6 hb6 hM c0 c3 c4
            go_wp2_with fail
            go_loopg [61] M (fun q kv wr => ∃ (k2 : Nat) (u : Value), q = M - k2 ∧ k2 ≤ M ∧ kv = .int .i64 k2 ∧ CuAt w wr b8 (.slice (some ⟨gr, 0, none⟩) i kr) (.slice (some ⟨ga, 0, none⟩) n n) u ms i k st (Sy.upE ms l p ++ Sy.row1 ms p ((Sy.steps l p).take k2)))
            case atStart => exact ⟨0, u, rfl, Nat.zero_le _, rfl, by have h9 := H7.out.2.1; simpa [Sy.row1] using h9⟩
            case round =>
              obtain ⟨k2, u, rfl, hk, rfl, hC⟩ := hrel
              by_cases hkm : k2 < M
              · obtain ⟨⟨x1, x2⟩, hx⟩ : ∃ x, (Sy.steps l p)[k2]? = some x := ⟨(Sy.steps l p)[k2]'(by have := H7.out.2.2; omega), List.getElem?_eq_getElem _⟩
                obtain ⟨a5, rfl, d0, d1⟩ := step_at (H7.out.1 wr (by rw [HL.out.1]; exact HG.out.1.out.below hC.bl)) hx
                simp only at d0 d1
                have hxe : ((p : Int), x1, x2) ∈ es := (Sy.nf_mem es _).1 (Sy.steps_mem.1 (by rw [← HL.out.1]; exact List.mem_of_getElem? hx))
                have hxr := HR.out.2.2.2.2.2 _ hxe
                simp only at hxr
                obtain ⟨q, rfl⟩ : ∃ q : Nat, x2 = (q : Int) := ⟨x2.toNat, by omega⟩
                have hqn : q < n := by omega
                have hrs := Sy.row1_snoc (bs := ms) (p := p) hx
                obtain ⟨ga', hga', cn⟩ := own_num hC.nn (Sy.rk_at (i := q) (by have := HMs.out.1; omega))
                obtain rfl : ga = ga' := by injection hga' with e1; injection e1
                simp only at hrs
                rw [HP.out.2.2] at hrs
                obtain ⟨rq, hrq⟩ : ∃ rq, rq = Sy.rk ms (q : Int) := ⟨_, rfl⟩
                rw [← hrq] at cn hrs
                obtain ⟨ys, hys⟩ : ∃ ys, ys = Sy.upE ms l p ++ Sy.row1 ms p ((Sy.steps l p).take k2) := ⟨_, rfl⟩
                rw [← hys] at hC
                obtain ⟨au, cu, hu⟩ := row_shape hC.eo
                obtain ⟨M2, hM2⟩ : ∃ M2, M2 = ys.length := ⟨_, rfl⟩
                rw [← hM2] at hu
                subst hu
                have hM3 : M2 ≤ 100000 := by
                  have h1 := Sy.upE_len ms l p
                  have h2 := List.length_take_le k2 (Sy.steps l p)
                  have h3 := HL.out.2.2
                  rw [hM2, hys, List.length_append, Sy.row1_len]
                  omega
                obtain ⟨wb, hwb⟩ : ∃ wb, wb = wr.alloc (.cells #[.int .i64 x1, .int .i64 q] 76) := ⟨_, rfl⟩
                have hbb : Below wr.heap.size wr wb := by rw [hwb]; exact (Below.refl _ _).alloc (Nat.le_refl _) _
                have hgb : wb.heap[wr.heap.size]? = some (.cells #[.int .i64 x1, .int .i64 q] 76 (0, 0)) := by rw [hwb]; exact heap_alloc_new wr _
                have hCb := hC.below hbb
                have f0 : wb.cell? ⟨wr.heap.size, 0, none⟩ = some (.int .i64 x1) := cell0_of hgb rfl
                have f1 : wb.cell? ⟨wr.heap.size, 1, none⟩ = some (.int .i64 q) := cell0_of hgb rfl
                have cn := cell_up cn hbb
                have b3 : wb.cell? ⟨b8, 3, none⟩ = some (.slice au M2 cu) := cell0_of hCb.bx rfl
                have hOz : wb.ownsRow w.heap.size 65 3 (.slice au M2 cu) M2 (BEdges.C ys) := by have h1 := hCb.eo; unfold BEdges.Own at h1; rw [← hM2] at h1; exact h1
                have hml : M2 + 1 ≤ maxLen := by unfold maxLen; omega
                have hby : (M2 + 1) * 24 ≤ 140737488355328 := by omega
                have hle : w.heap.size ≤ (wb.drew.alloc (.cells #[.int .i64 j, .int .i64 x1, .int .i64 rq] 65)).heap.size := by have := hCb.bl.size; simp; omega
                have k0 : (0 : Int) ≤ (k2 : Int) := by omega
                have k1 : (k2 : Int) < (M : Int) := by omega
                have k3 : (0 : Int) ≤ (q : Int) := by omega
                have k4 : (q : Int) < (n : Int) := by omega
                have b3c : (wb.alloc (.cells #[.int .i64 j, .int .i64 x1, .int .i64 rq] 65)).cell? ⟨b8, 3, none⟩ = some (.slice au M2 cu) := cell_up b3 ((Below.refl _ _).alloc (Nat.le_refl _) _)
                have nb8 : ¬ b8 = wb.heap.size := by have := t_lt hCb.bx; omega
                have hSb : (fun w' => w'.cell? ⟨wr.heap.size, 0, none⟩ = some (.int .i64 x1) ∧ w'.cell? ⟨wr.heap.size, 1, none⟩ = some (.int .i64 q) ∧ w'.cell? ⟨ga, q, none⟩ = some (.int .i64 rq)) wb.drew := ⟨f0, f1, cn⟩
                have hbd : Below wb.heap.size wb (wb.drew.alloc (.cells #[.int .i64 j, .int .i64 x1, .int .i64 rq] 65)) := (Below.refl _ _).drew.alloc (by simp) _
                have HSc : Hid ((fun w' => w'.cell? ⟨wr.heap.size, 0, none⟩ = some (.int .i64 x1) ∧ w'.cell? ⟨wr.heap.size, 1, none⟩ = some (.int .i64 q) ∧ w'.cell? ⟨ga, q, none⟩ = some (.int .i64 rq)) (wb.drew.alloc (.cells #[.int .i64 j, .int .i64 x1, .int .i64 rq] 65))) := (⟨cell_up f0 hbd, cell_up f1 hbd, cell_up cn hbd⟩ : (fun w' => w'.cell? ⟨wr.heap.size, 0, none⟩ = some (.int .i64 x1) ∧ w'.cell? ⟨wr.heap.size, 1, none⟩ = some (.int .i64 q) ∧ w'.cell? ⟨ga, q, none⟩ = some (.int .i64 rq)) (wb.drew.alloc (.cells #[.int .i64 j, .int .i64 x1, .int .i64 rq] 65)))
                have HZ : Hid _ := And.intro hCb (And.intro hOz (And.intro hwb (And.intro hys (And.intro hrs (And.intro hM2 hgb)))))
                have HSb : Hid _ := hSb
                clear hC hCb hOz hwb hbb hgb hys hrs hM2 hxe hxr hrq hga' hx hSb hbd f0 f1 cn
                go_upto_region 17 with fail
                rw [← HZ.out.2.2.1]
                refine wp_region_held_drew (S := (fun w' => w'.cell? ⟨wr.heap.size, 0, none⟩ = some (.int .i64 x1) ∧ w'.cell? ⟨wr.heap.size, 1, none⟩ = some (.int .i64 q) ∧ w'.cell? ⟨ga, q, none⟩ = some (.int .i64 rq))) (by kernel_rfl) ?_ (fun hHeld => ?_)
                · exact HSb.out
                refine wpAnyH_take (i := 0) (oi := _) (v := ?_) rfl (by kernel_rfl) (by kernel_rfl) (by kernel_rfl) (fun _ _ _ h => h) (Or.inl ⟨by rfl, ?_⟩) (by assumption) ?_
                rotate_left
                · (intro w hSw; obtain ⟨v0, v1, v2⟩ := hSw; go_simp; (try with_reducible rfl))
                (try simp only [List.getElem_toArray, List.getElem_cons_succ, List.getElem_cons_zero, Act.put, List.setIfInBounds_toArray, List.set_cons_zero, List.set_cons_succ])
                refine wpAnyH_take (i := 2) (oi := _) (v := ?_) rfl (by kernel_rfl) (by kernel_rfl) (by kernel_rfl) (fun _ _ _ h => h) (Or.inl ⟨by rfl, ?_⟩) (by assumption) ?_
                rotate_left
                · (intro w hSw; obtain ⟨v0, v1, v2⟩ := hSw; go_simp; (try with_reducible rfl))
                (try simp only [List.getElem_toArray, List.getElem_cons_succ, List.getElem_cons_zero, Act.put, List.setIfInBounds_toArray, List.set_cons_zero, List.set_cons_succ])
                refine wpAnyH_take (i := 3) (oi := _) (v := ?_) rfl (by kernel_rfl) (by kernel_rfl) (by kernel_rfl) (fun _ _ _ h => h) (Or.inl ⟨by rfl, ?_⟩) (by assumption) ?_
                rotate_left
                · (intro w hSw; obtain ⟨v0, v1, v2⟩ := hSw; go_simp; (try with_reducible rfl))
                (try simp only [List.getElem_toArray, List.getElem_cons_succ, List.getElem_cons_zero, Act.put, List.setIfInBounds_toArray, List.set_cons_zero, List.set_cons_succ])
                refine wpAnyH_take (i := 4) (oi := _) (v := ?_) rfl (by kernel_rfl) (by kernel_rfl) (by kernel_rfl) (fun _ _ _ h => h) (Or.inl ⟨by rfl, ?_⟩) (by assumption) ?_
                rotate_left
                · (intro w hSw; obtain ⟨v0, v1, v2⟩ := hSw; go_simp; (try with_reducible rfl))
                (try simp only [List.getElem_toArray, List.getElem_cons_succ, List.getElem_cons_zero, Act.put, List.setIfInBounds_toArray, List.set_cons_zero, List.set_cons_succ])
                refine wpAnyH_take (i := 5) (oi := _) (v := ?_) rfl (by kernel_rfl) (by kernel_rfl) (by kernel_rfl) (fun _ _ _ h => h) (Or.inl ⟨by rfl, ?_⟩) (by assumption) ?_
                rotate_left
                · (intro w hSw; obtain ⟨v0, v1, v2⟩ := hSw; go_simp; (try with_reducible rfl))
                (try simp only [List.getElem_toArray, List.getElem_cons_succ, List.getElem_cons_zero, Act.put, List.setIfInBounds_toArray, List.set_cons_zero, List.set_cons_succ])
                refine wpAnyH_take (i := 6) (oi := _) (v := ?_) rfl (by kernel_rfl) (by kernel_rfl) (by kernel_rfl) (fun _ _ _ h => h) (Or.inl ⟨by rfl, ?_⟩) (by assumption) ?_
                rotate_left
                · (intro w hSw; obtain ⟨v0, v1, v2⟩ := hSw; go_simp; (try with_reducible rfl))
                (try simp only [List.getElem_toArray, List.getElem_cons_succ, List.getElem_cons_zero, Act.put, List.setIfInBounds_toArray, List.set_cons_zero, List.set_cons_succ])
                refine wpAnyH_take (i := 7) (oi := _) (v := ?_) rfl (by kernel_rfl) (by kernel_rfl) (by kernel_rfl) (fun _ _ _ h => h) (Or.inl ⟨by rfl, ?_⟩) (by assumption) ?_
                rotate_left
                · (intro w hSw; obtain ⟨v0, v1, v2⟩ := hSw; go_simp; (try with_reducible rfl))
                (try simp only [List.getElem_toArray, List.getElem_cons_succ, List.getElem_cons_zero, Act.put, List.setIfInBounds_toArray, List.set_cons_zero, List.set_cons_succ])
                refine wpAnyH_take (i := 8) (oi := _) (v := ?_) rfl (by kernel_rfl) (by kernel_rfl) (by kernel_rfl) (fun _ _ _ h => h) (Or.inl ⟨by rfl, ?_⟩) (by assumption) ?_
                rotate_left
                · (intro w hSw; obtain ⟨v0, v1, v2⟩ := hSw; go_simp; (try with_reducible rfl))
                (try simp only [List.getElem_toArray, List.getElem_cons_succ, List.getElem_cons_zero, Act.put, List.setIfInBounds_toArray, List.set_cons_zero, List.set_cons_succ])
                refine wpAnyH_take (i := 9) (oi := _) (v := ?_) rfl (by kernel_rfl) (by kernel_rfl) (by kernel_rfl) (fun _ _ _ h => h) (Or.inl ⟨by rfl, ?_⟩) (by assumption) ?_
                rotate_left
                · (intro w hSw; obtain ⟨v0, v1, v2⟩ := hSw; go_simp; (try with_reducible rfl))
                (try simp only [List.getElem_toArray, List.getElem_cons_succ, List.getElem_cons_zero, Act.put, List.setIfInBounds_toArray, List.set_cons_zero, List.set_cons_succ])
                refine wpAnyH_take (i := 10) (oi := _) (v := ?_) rfl (by kernel_rfl) (by kernel_rfl) (by kernel_rfl) (fun _ _ _ h => h) (Or.inl ⟨by rfl, ?_⟩) (by assumption) ?_
                rotate_left
                · (intro w hSw; obtain ⟨v0, v1, v2⟩ := hSw; go_simp; (try with_reducible rfl))
                (try simp only [List.getElem_toArray, List.getElem_cons_succ, List.getElem_cons_zero, Act.put, List.setIfInBounds_toArray, List.set_cons_zero, List.set_cons_succ])
                refine wpAnyH_ready (rs := [1, 11]) (by kernel_rfl) (by simp) ?_
                refine AllReadyH.cons (o := _) rfl (fun KK hKK => ?_) ?_
                · go_simp
                  refine hKK.out _ _ ?_ (fun hHeld => ?_)
                  · exact HSb.out
                  clear hKK KK
                  (try simp only [List.getElem_toArray, List.getElem_cons_succ, List.getElem_cons_zero, Act.put, List.setIfInBounds_toArray, List.set_cons_zero, List.set_cons_succ])
                  refine wpAnyH_ready (rs := [11]) (by kernel_rfl) (by simp) ?_
                  refine AllReadyH.cons (o := _) rfl (fun KK hKK => ?_) ?_
                  · go_simp
                    refine hKK.out _ _ ?_ (fun hHeld => ?_)
                    · exact HSc.out
                    clear hKK KK
                    (try simp only [List.getElem_toArray, List.getElem_cons_succ, List.getElem_cons_zero, Act.put, List.setIfInBounds_toArray, List.set_cons_zero, List.set_cons_succ])
                    refine wpAnyH_ready (rs := [12]) (by kernel_rfl) (by simp) ?_
                    refine AllReadyH.cons (o := _) rfl (fun KK hKK => ?_) ?_
                    · (refine step_append_lies _ (by rfl) _ _ _ (by rfl) w.heap.size 65 i0 _ 3 24 Tryz.underlying22 hi0 hz0 hz1 hz2 rfl (by decide) (.slice au M2 cu) M2 (BEdges.C ys) (by rfl) (World.ownsRow.alloc (trow_at (w' := wb.drew) HZ.out.2.1 fun _ _ => by first | rfl | simp) _) ⟨wb.heap.size, 0, none⟩ 1 1 [.int .i64 j, .int .i64 x1, .int .i64 rq] (by rfl) (by rfl) (World.news_of_block (cs := #[.int .i64 j, .int .i64 x1, .int .i64 rq]) (t := 65) (fr := (0, 0)) (heap_alloc_new wb.drew _)) (by simp [Value.oneCell']) Nat.one_pos hml hby hle (wb.heap.size + 1) (by simp) ?_; intro g4 k4' w4 hown4 hgrow4 hat4 hlt4)
                      have hk4 : Kept (fun b => (Value.slice au M2 cu).ownBlock = some b) wb w4 := (Kept.of_below ((Below.refl _ wb).drew.alloc (by simp) _)).trans (Kept.of_grown hgrow4)
                      have hbx4 := (hk4.block b8 (t_lt HZ.out.1.bx) (own_bk HZ.out.1.eo HZ.out.1.bx (by decide))).trans HZ.out.1.bx
                      have hst4 := (hk4.block wr.heap.size (t_lt HZ.out.2.2.2.2.2.2) (own_bk HZ.out.1.eo HZ.out.2.2.2.2.2.2 (by decide))).trans HZ.out.2.2.2.2.2.2
                      have cn4 : w4.cell? ⟨ga, q, none⟩ = some (.int .i64 rq) := by
                        obtain ⟨j0, j1, j3⟩ := HSb.out
                        exact (World.cell?_of_block (a := ⟨ga, q, none⟩) (hk4.block ga (World.block_lt_of_cell? wb _ (show wb.cell? ⟨ga, q, none⟩ = some (.int .i64 rq) from j3)) (fun e => own_ne HZ.out.1.eo HZ.out.1.nn (by decide) ga e rfl))).trans j3
                      have gan : ga ≠ b8 := fun e => by
                        have h1 := own_bk HZ.out.1.nn HZ.out.1.bx (by decide)
                        exact h1 (by rw [e]; rfl)
                      have wrn : wr.heap.size ≠ b8 := fun e => by
                        have h1 := hst4
                        rw [e, hbx4] at h1
                        injection h1 with h2
                        injection h2 with _ h3
                        exact absurd h3 (by decide)
                      have hS4 : (fun w' => w'.cell? ⟨wr.heap.size, 0, none⟩ = some (.int .i64 x1) ∧ w'.cell? ⟨wr.heap.size, 1, none⟩ = some (.int .i64 q) ∧ w'.cell? ⟨ga, q, none⟩ = some (.int .i64 rq)) w4 := ⟨cell0_of hst4 rfl, cell0_of hst4 rfl, cn4⟩
                      have hS5 : (fun w' => w'.cell? ⟨wr.heap.size, 0, none⟩ = some (.int .i64 x1) ∧ w'.cell? ⟨wr.heap.size, 1, none⟩ = some (.int .i64 q) ∧ w'.cell? ⟨ga, q, none⟩ = some (.int .i64 rq)) (w4.setCell ⟨b8, 3, none⟩ (.slice (some ⟨g4, 0, none⟩) (M2 + 1) k4')) := ⟨(World.cell?_of_block (a := ⟨wr.heap.size, 0, none⟩) (set_other _ _ _ _ _ wrn)).trans hS4.1, (World.cell?_of_block (a := ⟨wr.heap.size, 1, none⟩) (set_other _ _ _ _ _ wrn)).trans hS4.2.1, (World.cell?_of_block (a := ⟨ga, q, none⟩) (set_other _ _ _ _ _ gan)).trans hS4.2.2⟩
                      have bf := blk_free hbx4 3
                      have b34 := cell0_of (k := 3) hbx4 rfl
                      have hpush := HZ.out.1.push (z := ((j : Int), x1, rq)) HZ.out.2.2.2.2.2.1 hown4 hk4
                      have H4 : Hid _ := And.intro hpush hS5
                      clear hown4 hgrow4 hat4 hlt4 hk4 hbx4 hst4 hpush hS5 cn4 gan wrn
                      refine hKK.out _ _ ?_ (fun hHeld => ?_)
                      · exact hS4
                      clear hKK KK
                      (try simp only [List.getElem_toArray, List.getElem_cons_succ, List.getElem_cons_zero, Act.put, List.setIfInBounds_toArray, List.set_cons_zero, List.set_cons_succ])
                      refine wpAnyH_take (i := 13) (oi := _) (v := ?_) rfl (by kernel_rfl) (by kernel_rfl) (by kernel_rfl) (fun _ _ _ h => h) (Or.inl ⟨by rfl, ?_⟩) (by assumption) ?_
                      rotate_left
                      · (intro w hSw; obtain ⟨v0, v1, v2⟩ := hSw; go_simp; (try with_reducible rfl))
                      (try simp only [List.getElem_toArray, List.getElem_cons_succ, List.getElem_cons_zero, Act.put, List.setIfInBounds_toArray, List.set_cons_zero, List.set_cons_succ])
                      refine wpAnyH_ready (rs := [14]) (by kernel_rfl) (by simp) ?_
                      refine AllReadyH.cons (o := _) rfl (fun KK hKK => ?_) ?_
                      · go_simp
                        refine hKK.out _ _ ?_ (fun hHeld => ?_)
                        · exact H4.out.2
                        clear hKK KK
                        (try simp only [List.getElem_toArray, List.getElem_cons_succ, List.getElem_cons_zero, Act.put, List.setIfInBounds_toArray, List.set_cons_zero, List.set_cons_succ])
                        refine wpAnyH_done (by kernel_rfl) ?_ _
                        (try go_simp)
                        go_wp2_with fail
                        go_roundg (M - (k2 + 1))
                        case measure => omega
                        case rel => exact ⟨k2 + 1, _, rfl, by omega, by go_num, by rw [HZ.out.2.2.2.2.1, ← List.append_assoc, ← HZ.out.2.2.2.1]; exact H4.out.1⟩
                      exact AllReadyH.nil
                    exact AllReadyH.nil
                  exact AllReadyH.nil
                refine AllReadyH.cons (o := _) rfl (fun KK hKK => ?_) ?_
                · go_simp
                  refine hKK.out _ _ ?_ (fun hHeld => ?_)
                  · exact HSc.out
                  clear hKK KK
                  (try simp only [List.getElem_toArray, List.getElem_cons_succ, List.getElem_cons_zero, Act.put, List.setIfInBounds_toArray, List.set_cons_zero, List.set_cons_succ])
                  refine wpAnyH_ready (rs := [1]) (by kernel_rfl) (by simp) ?_
                  refine AllReadyH.cons (o := _) rfl (fun KK hKK => ?_) ?_
                  · go_simp
                    refine hKK.out _ _ ?_ (fun hHeld => ?_)
                    · exact HSc.out
                    clear hKK KK
                    (try simp only [List.getElem_toArray, List.getElem_cons_succ, List.getElem_cons_zero, Act.put, List.setIfInBounds_toArray, List.set_cons_zero, List.set_cons_succ])
                    refine wpAnyH_ready (rs := [12]) (by kernel_rfl) (by simp) ?_
                    refine AllReadyH.cons (o := _) rfl (fun KK hKK => ?_) ?_
                    · (refine step_append_lies _ (by rfl) _ _ _ (by rfl) w.heap.size 65 i0 _ 3 24 Tryz.underlying22 hi0 hz0 hz1 hz2 rfl (by decide) (.slice au M2 cu) M2 (BEdges.C ys) (by rfl) (World.ownsRow.alloc (trow_at (w' := wb.drew) HZ.out.2.1 fun _ _ => by first | rfl | simp) _) ⟨wb.heap.size, 0, none⟩ 1 1 [.int .i64 j, .int .i64 x1, .int .i64 rq] (by rfl) (by rfl) (World.news_of_block (cs := #[.int .i64 j, .int .i64 x1, .int .i64 rq]) (t := 65) (fr := (0, 0)) (heap_alloc_new wb.drew _)) (by simp [Value.oneCell']) Nat.one_pos hml hby hle (wb.heap.size + 1) (by simp) ?_; intro g4 k4' w4 hown4 hgrow4 hat4 hlt4)
                      have hk4 : Kept (fun b => (Value.slice au M2 cu).ownBlock = some b) wb w4 := (Kept.of_below ((Below.refl _ wb).drew.alloc (by simp) _)).trans (Kept.of_grown hgrow4)
                      have hbx4 := (hk4.block b8 (t_lt HZ.out.1.bx) (own_bk HZ.out.1.eo HZ.out.1.bx (by decide))).trans HZ.out.1.bx
                      have hst4 := (hk4.block wr.heap.size (t_lt HZ.out.2.2.2.2.2.2) (own_bk HZ.out.1.eo HZ.out.2.2.2.2.2.2 (by decide))).trans HZ.out.2.2.2.2.2.2
                      have cn4 : w4.cell? ⟨ga, q, none⟩ = some (.int .i64 rq) := by
                        obtain ⟨j0, j1, j3⟩ := HSb.out
                        exact (World.cell?_of_block (a := ⟨ga, q, none⟩) (hk4.block ga (World.block_lt_of_cell? wb _ (show wb.cell? ⟨ga, q, none⟩ = some (.int .i64 rq) from j3)) (fun e => own_ne HZ.out.1.eo HZ.out.1.nn (by decide) ga e rfl))).trans j3
                      have gan : ga ≠ b8 := fun e => by
                        have h1 := own_bk HZ.out.1.nn HZ.out.1.bx (by decide)
                        exact h1 (by rw [e]; rfl)
                      have wrn : wr.heap.size ≠ b8 := fun e => by
                        have h1 := hst4
                        rw [e, hbx4] at h1
                        injection h1 with h2
                        injection h2 with _ h3
                        exact absurd h3 (by decide)
                      have hS4 : (fun w' => w'.cell? ⟨wr.heap.size, 0, none⟩ = some (.int .i64 x1) ∧ w'.cell? ⟨wr.heap.size, 1, none⟩ = some (.int .i64 q) ∧ w'.cell? ⟨ga, q, none⟩ = some (.int .i64 rq)) w4 := ⟨cell0_of hst4 rfl, cell0_of hst4 rfl, cn4⟩
                      have hS5 : (fun w' => w'.cell? ⟨wr.heap.size, 0, none⟩ = some (.int .i64 x1) ∧ w'.cell? ⟨wr.heap.size, 1, none⟩ = some (.int .i64 q) ∧ w'.cell? ⟨ga, q, none⟩ = some (.int .i64 rq)) (w4.setCell ⟨b8, 3, none⟩ (.slice (some ⟨g4, 0, none⟩) (M2 + 1) k4')) := ⟨(World.cell?_of_block (a := ⟨wr.heap.size, 0, none⟩) (set_other _ _ _ _ _ wrn)).trans hS4.1, (World.cell?_of_block (a := ⟨wr.heap.size, 1, none⟩) (set_other _ _ _ _ _ wrn)).trans hS4.2.1, (World.cell?_of_block (a := ⟨ga, q, none⟩) (set_other _ _ _ _ _ gan)).trans hS4.2.2⟩
                      have bf := blk_free hbx4 3
                      have b34 := cell0_of (k := 3) hbx4 rfl
                      have hpush := HZ.out.1.push (z := ((j : Int), x1, rq)) HZ.out.2.2.2.2.2.1 hown4 hk4
                      have H4 : Hid _ := And.intro hpush hS5
                      clear hown4 hgrow4 hat4 hlt4 hk4 hbx4 hst4 hpush hS5 cn4 gan wrn
                      refine hKK.out _ _ ?_ (fun hHeld => ?_)
                      · exact hS4
                      clear hKK KK
                      (try simp only [List.getElem_toArray, List.getElem_cons_succ, List.getElem_cons_zero, Act.put, List.setIfInBounds_toArray, List.set_cons_zero, List.set_cons_succ])
                      refine wpAnyH_take (i := 13) (oi := _) (v := ?_) rfl (by kernel_rfl) (by kernel_rfl) (by kernel_rfl) (fun _ _ _ h => h) (Or.inl ⟨by rfl, ?_⟩) (by assumption) ?_
                      rotate_left
                      · (intro w hSw; obtain ⟨v0, v1, v2⟩ := hSw; go_simp; (try with_reducible rfl))
                      (try simp only [List.getElem_toArray, List.getElem_cons_succ, List.getElem_cons_zero, Act.put, List.setIfInBounds_toArray, List.set_cons_zero, List.set_cons_succ])
                      refine wpAnyH_ready (rs := [14]) (by kernel_rfl) (by simp) ?_
                      refine AllReadyH.cons (o := _) rfl (fun KK hKK => ?_) ?_
                      · go_simp
                        refine hKK.out _ _ ?_ (fun hHeld => ?_)
                        · exact H4.out.2
                        clear hKK KK
                        (try simp only [List.getElem_toArray, List.getElem_cons_succ, List.getElem_cons_zero, Act.put, List.setIfInBounds_toArray, List.set_cons_zero, List.set_cons_succ])
                        refine wpAnyH_done (by kernel_rfl) ?_ _
                        (try go_simp)
                        go_wp2_with fail
                        go_roundg (M - (k2 + 1))
                        case measure => omega
                        case rel => exact ⟨k2 + 1, _, rfl, by omega, by go_num, by rw [HZ.out.2.2.2.2.1, ← List.append_assoc, ← HZ.out.2.2.2.1]; exact H4.out.1⟩
                      exact AllReadyH.nil
                    exact AllReadyH.nil
                  exact AllReadyH.nil
                exact AllReadyH.nil
              · obtain rfl : k2 = M := by omega
                have k1 : ¬ (k2 : Int) < (k2 : Int) := by omega
                have ht : (Sy.steps l p).take k2 = Sy.steps l p := List.take_of_length_le (by have := H7.out.2.2; omega)
                rw [ht] at hC
                have hup : Sy.upE ms l (p + 1) = Sy.upE ms l p ++ Sy.row1 ms p (Sy.steps l p) := by rw [Sy.upE_step HL.out.2.1 p, if_pos HP.out.1]
                rw [← hup] at hC
                have H8 : Hid _ := hC
                clear hC ht hup
                go_wp2_with fail
                go_roundg (i - (j + 1))
                case measure => omega
                case rel => exact ⟨j + 1, p + 1, _, rfl, by omega, by go_num, H8.out, by omega, by rw [Sy.count_step HP.out.1, HP.out.2.1]⟩
          · obtain rfl : j = i := by omega
            have p1 : ¬ (j : Int) < (j : Int) := by omega
            have hfull : Sy.upE ms l a = Sy.cutE ms (Sy.nf es) := by
              have h1 := HMs.out.1
              rw [Sy.upE_skip HL.out.2.1 n han (by omega) (by rw [hac, HMs.out.2.2.1, ← h1, List.take_length])]
              unfold Sy.upE
              rw [HL.out.1, Sy.take_all HG.out.1.right]
            rw [hfull] at hC
            obtain ⟨au, cu, hu⟩ := row_shape hC.eo
            obtain ⟨M2, hM2⟩ : ∃ M2, M2 = (Sy.cutE ms (Sy.nf es)).length := ⟨_, rfl⟩
            rw [← hM2] at hu
            subst hu
            have y0 := cell0_of (k := 0) hC.bx rfl
            have y1 := cell0_of (k := 1) hC.bx rfl
            have y2 := cell0_of (k := 2) hC.bx rfl
            have y3 := cell0_of (k := 3) hC.bx rfl
            have r0 := cell0_of (k := 0) hC.rs rfl
            have r1 := cell0_of (k := 1) hC.rs rfl
            have r2 := cell0_of (k := 2) hC.rs rfl
            have r3 := cell0_of (k := 3) hC.rs rfl
            have f0 := blk_free hC.rs 0
            have f1 := blk_free hC.rs 1
            have f2 := blk_free hC.rs 2
            have f3 := blk_free hC.rs 3
            have H8 : Hid _ := hC
            have nn1 : ¬ b8 = w.heap.size := by have := hC.hb; omega
            have nn2 : ¬ w.heap.size = b8 := by have := hC.hb; omega
            clear hC hfull hM2 han hac
            go_wp2_with fail
            refine bodyPost_ret (v := .tuple #[.agg #[.int .i64 j, .int .i64 k, .int .i64 st, .slice au M2 cu], .slice (some ⟨ga, 0, none⟩) n n]) (by simp [results, Tryz.results15, go_sem, *]) rfl ?_
            have h := H8.out
            have kS : Kept (fun b => b = w.heap.size) wr ((((wr.setCell ⟨w.heap.size, 0, none⟩ (.int .i64 j)).setCell ⟨w.heap.size, 1, none⟩ (.int .i64 k)).setCell ⟨w.heap.size, 2, none⟩ (.int .i64 st)).setCell ⟨w.heap.size, 3, none⟩ (.slice au M2 cu)) := (((Kept.setCell _ _ _ _).trans (Kept.setCell _ _ _ _)).trans (Kept.setCell _ _ _ _)).trans (Kept.setCell _ _ _ _)
            refine ⟨ms, .slice au M2 cu, .slice (some ⟨ga, 0, none⟩) n n, ?_, HMs.out.1, HMs.out.2.1, own_up h.eo kS (fun b e q => own_bk h.eo h.rs (by decide) (q ▸ e)), own_up h.nn kS (fun b e q => own_bk h.nn h.rs (by decide) (q ▸ e)), (((h.bl.setCell (Nat.le_refl _) _).setCell (Nat.le_refl _) _).setCell (Nat.le_refl _) _).setCell (Nat.le_refl _) _⟩
            unfold sysV
            rw [← HMs.out.2.2.1, ← Hst.out]
end Go.Proofs.YtihdpncjgmpboaaGreatDoor
/- The one form of classes: who is together, the form of the form, when two have one. Plain facts. -/
namespace Go.Proofs.YtihdpncjgmpboaaGreatDoor.Sy
theorem place_lt {c : Int} {l : List Int} : place c l < l.length ↔ c ∈ l := by
  induction l with
  | nil => simp [place]
  | cons a r ih =>
    unfold place
    by_cases h : a = c
    · simp [h]
    · rw [if_neg h, List.length_cons, Nat.add_lt_add_iff_right, ih, List.mem_cons]
      exact ⟨fun h1 => .inr h1, fun h1 => h1.elim (fun e => absurd e.symm h) id⟩
theorem place_not {c : Int} {l : List Int} (h : c ∉ l) : place c l = l.length := by
  have h1 := place_le c l
  have h2 : ¬ place c l < l.length := fun h2 => h (place_lt.1 h2)
  omega
theorem place_at {c : Int} {l : List Int} (h : c ∈ l) : l[place c l]? = some c := by
  induction l with
  | nil => simp at h
  | cons a r ih =>
    unfold place
    by_cases h1 : a = c
    · simp [h1]
    · rw [if_neg h1, List.getElem?_cons_succ]
      exact ih ((List.mem_cons.1 h).elim (fun e => absurd e.symm h1) id)
theorem place_inj {a b : Int} {l : List Int} (ha : a ∈ l) (hb : b ∈ l) (h : place a l = place b l) : a = b := by
  have h1 := place_at ha
  rw [h, place_at hb] at h1
  exact (Option.some.inj h1).symm
theorem place_left {c : Int} {a : List Int} (b : List Int) (h : c ∈ a) : place c (a ++ b) = place c a := by
  induction a with
  | nil => simp at h
  | cons x r ih =>
    simp only [List.cons_append, place]
    by_cases h1 : x = c
    · simp [h1]
    · rw [if_neg h1, if_neg h1, ih ((List.mem_cons.1 h).elim (fun e => absurd e.symm h1) id)]
/-- Those seen, with one more. -/
def more (c : Int) (seen : List Int) : List Int := if place c seen < seen.length then seen else seen ++ [c]
theorem more_mem (c : Int) (seen : List Int) : c ∈ more c seen := by
  unfold more
  split
  · next h => exact place_lt.1 h
  · exact List.mem_append_right _ (List.mem_singleton.2 rfl)
theorem more_pre (c : Int) (seen : List Int) : ∃ t, more c seen = seen ++ t := by
  unfold more
  split
  · exact ⟨[], by simp⟩
  · exact ⟨[c], rfl⟩
theorem more_place (c : Int) (seen : List Int) : place c (more c seen) = place c seen := by
  unfold more
  split
  · rfl
  · next h =>
    have h1 : c ∉ seen := fun h1 => h (place_lt.2 h1)
    rw [place_app c seen [c] (fun x hx e => h1 (by rw [← e]; exact hx)), place_not h1]
    simp [place]
theorem seenG_pre (l : List Int) : ∀ seen, ∃ t, seenG seen l = seen ++ t := by
  induction l with
  | nil => intro seen; exact ⟨[], by simp [seenG]⟩
  | cons c r ih =>
    intro seen
    obtain ⟨t, ht⟩ := ih (more c seen)
    obtain ⟨u, hu⟩ := more_pre c seen
    refine ⟨u ++ t, ?_⟩
    show seenG (more c seen) r = _
    rw [ht, hu, List.append_assoc]
theorem seenG_mem (l : List Int) : ∀ seen, ∀ z ∈ l, z ∈ seenG seen l := by
  induction l with
  | nil => intro seen z h; simp at h
  | cons c r ih =>
    intro seen z hz
    show z ∈ seenG (more c seen) r
    rcases List.mem_cons.1 hz with rfl | hz
    · obtain ⟨t, ht⟩ := seenG_pre r (more z seen)
      rw [ht]; exact List.mem_append_left _ (more_mem z seen)
    · exact ih _ z hz
theorem canonG_map (l : List Int) : ∀ seen, canonG seen l = l.map fun z => place z (seenG seen l) := by
  induction l with
  | nil => intro seen; rfl
  | cons c r ih =>
    intro seen
    show place c seen :: canonG (more c seen) r = place c (seenG (more c seen) r) :: r.map fun z => place z (seenG (more c seen) r)
    rw [ih]
    congr 1
    obtain ⟨t, ht⟩ := seenG_pre r (more c seen)
    rw [ht, place_left t (more_mem c seen), more_place]
theorem canon_map (l : List Int) : canon l = l.map fun z => place z (seenG [] l) := canonG_map l []
theorem place_map (f : Int → Int) (c : Int) (l : List Int) (h : ∀ x ∈ l, f x = f c → x = c) : place (f c) (l.map f) = place c l := by
  induction l with
  | nil => rfl
  | cons a r ih =>
    simp only [List.map_cons, place]
    by_cases h1 : a = c
    · simp [h1]
    · rw [if_neg h1, if_neg (fun e => h1 (h a List.mem_cons_self e)), ih fun x hx => h x (List.mem_cons_of_mem _ hx)]
/-- Numbers that are renamed one to one have the same one form. -/
theorem canonG_inj (f : Int → Int) (l : List Int) : ∀ seen, (∀ x ∈ seen ++ l, ∀ y ∈ seen ++ l, f x = f y → x = y) → canonG (seen.map f) (l.map f) = canonG seen l := by
  induction l with
  | nil => intro seen _; rfl
  | cons c r ih =>
    intro seen h
    have hp : place (f c) (seen.map f) = place c seen := place_map f c seen fun x hx e => h x (List.mem_append_left _ hx) c (List.mem_append_right _ List.mem_cons_self) e
    have hm : more (f c) (seen.map f) = (more c seen).map f := by
      unfold more
      rw [hp, List.length_map]
      split
      · rfl
      · simp
    show place (f c) (seen.map f) :: canonG (more (f c) (seen.map f)) (r.map f) = place c seen :: canonG (more c seen) r
    rw [hp, hm, ih (more c seen)]
    have hsub : ∀ x ∈ more c seen ++ r, x ∈ seen ++ c :: r := fun x hx => by
      rcases List.mem_append.1 hx with hx | hx
      · unfold more at hx
        split at hx
        · exact List.mem_append_left _ hx
        · rcases List.mem_append.1 hx with hx | hx
          · exact List.mem_append_left _ hx
          · rw [List.mem_singleton.1 hx]; exact List.mem_append_right _ List.mem_cons_self
      · exact List.mem_append_right _ (List.mem_cons_of_mem _ hx)
    exact fun x hx y hy e => h x (hsub x hx) y (hsub y hy) e
theorem canon_inj (f : Int → Int) (l : List Int) (h : ∀ x ∈ l, ∀ y ∈ l, f x = f y → x = y) : canon (l.map f) = canon l := canonG_inj f l [] (by simpa using h)
theorem natI_map (l : List Int) : natI (canon l) = l.map fun z => ((place z (seenG [] l) : Nat) : Int) := by
  rw [canon_map]; simp [natI]
/-- It is its own one form. -/
theorem canon_idem (l : List Int) : canon (natI (canon l)) = canon l := by
  rw [natI_map]
  refine canon_inj _ l fun x hx y hy e => place_inj (seenG_mem l [] x hx) (seenG_mem l [] y hy) (by omega)
/-- It keeps who is together. -/
theorem canon_eq {l : List Int} {i k : Nat} {x y : Int} (hi : l[i]? = some x) (hk : l[k]? = some y) {u v : Int} (hu : (natI (canon l))[i]? = some u) (hv : (natI (canon l))[k]? = some v) : u = v ↔ x = y := by
  rw [natI_map, List.getElem?_map, hi] at hu
  rw [natI_map, List.getElem?_map, hk] at hv
  simp only [Option.map_some, Option.some.injEq] at hu hv
  subst hu; subst hv
  constructor
  · intro e
    exact place_inj (seenG_mem l [] x (List.mem_of_getElem? hi)) (seenG_mem l [] y (List.mem_of_getElem? hk)) (by omega)
  · rintro rfl; rfl
/-- Two lists have one just if they say the same together. -/
theorem canon_iff {a b : List Int} (hl : a.length = b.length) : canon a = canon b ↔ ∀ (i k : Nat) (x y u v : Int), a[i]? = some x → a[k]? = some y → b[i]? = some u → b[k]? = some v → (x = y ↔ u = v) := by
  constructor
  · intro h i k x y u v hx hy hu hv
    have hil := (List.getElem?_eq_some_iff.1 hx).1
    have hkl := (List.getElem?_eq_some_iff.1 hy).1
    have hn : (natI (canon a)).length = a.length := by rw [natI_map, List.length_map]
    obtain ⟨p, hp⟩ : ∃ p, (natI (canon a))[i]? = some p := ⟨_, List.getElem?_eq_getElem (by rw [hn]; exact hil)⟩
    obtain ⟨q, hq⟩ : ∃ q, (natI (canon a))[k]? = some q := ⟨_, List.getElem?_eq_getElem (by rw [hn]; exact hkl)⟩
    exact (canon_eq hx hy hp hq).symm.trans (canon_eq hu hv (by rw [← h]; exact hp) (by rw [← h]; exact hq))
  · intro h
    have hb : b = a.map fun z => (b[place z a]?).getD 0 := by
      apply List.ext_getElem?
      intro i
      by_cases hi : i < a.length
      · have hx : a[i]? = some a[i] := List.getElem?_eq_getElem hi
        have hu : b[i]? = some (b[i]'(by omega)) := List.getElem?_eq_getElem _
        have hm : a[i] ∈ a := List.getElem_mem hi
        have hp := place_at hm
        have hpl : place a[i] a < a.length := place_lt.2 hm
        have hv : b[place a[i] a]? = some (b[place a[i] a]'(by omega)) := List.getElem?_eq_getElem _
        rw [List.getElem?_map, hx, hu]
        simp only [Option.map_some]
        rw [hv]
        have h2 := (h i (place a[i] a) _ _ _ _ hx hp hu hv).1 rfl
        rw [h2]; rfl
      · rw [List.getElem?_eq_none (by omega), List.getElem?_eq_none (by rw [List.length_map]; omega)]
    rw [hb]
    refine (canon_inj _ a fun x hx y hy e => ?_).symm
    have hxl : place x a < b.length := by rw [← hl]; exact place_lt.2 hx
    have hyl : place y a < b.length := by rw [← hl]; exact place_lt.2 hy
    have hu : b[place x a]? = some b[place x a] := List.getElem?_eq_getElem hxl
    have hv : b[place y a]? = some b[place y a] := List.getElem?_eq_getElem hyl
    rw [hu, hv] at e
    exact (h _ _ _ _ _ _ (place_at hx) (place_at hy) hu hv).2 e
theorem formG_canon (l : List Int) : ∀ seen, formG seen.length (natI (canonG seen l)) = true := by
  induction l with
  | nil => intro seen; rfl
  | cons c r ih =>
    intro seen
    have h1 := ih (more c seen)
    show (decide ((0 : Int) ≤ ((place c seen : Nat) : Int) ∧ ((place c seen : Nat) : Int) ≤ (seen.length : Int)) && formG (if ((place c seen : Nat) : Int) = (seen.length : Int) then seen.length + 1 else seen.length) (natI (canonG (more c seen) r))) = true
    have h2 := place_le c seen
    rw [decide_eq_true (by omega), Bool.true_and]
    have h3 : (more c seen).length = if ((place c seen : Nat) : Int) = (seen.length : Int) then seen.length + 1 else seen.length := by
      unfold more
      by_cases e : place c seen < seen.length
      · rw [if_pos e, if_neg (by omega)]
      · rw [if_neg e, if_pos (by omega)]; simp
    rw [← h3]
    exact h1
/-- It is in the one form. -/
theorem classes_canon (l : List Int) (n : Int) (hn : n = (l.length : Int)) : classes n (natI (canon l)) = true := by
  have h1 : (natI (canon l)).length = l.length := by rw [natI_map, List.length_map]
  unfold classes
  rw [h1, hn, decide_eq_true rfl, Bool.true_and]
  exact formG_canon l []
end Go.Proofs.YtihdpncjgmpboaaGreatDoor.Sy
/- Contracts of the program's numbered, Canon, Together and Classes. -/
namespace Go.Proofs.YtihdpncjgmpboaaGreatDoor
open Go.RowKit Go.Maps
attribute [local go_sem ↓] Go.wp_at_zero Go.wp_at_succ
/-- The map tells each class's place among those that were seen. -/
structure MapI (D : DataW Unit) (ns : List Int) : Prop where
  yes : ∀ (i : Nat) (z : Int), ns[i]? = some z → Maps.has D (.int .i64 z) = true ∧ D.atKey (.int .i64 z) (.lit (.int .i64 0)) = .lit (.int .i64 i)
  no : ∀ z : Int, z ∉ ns → Maps.has D (.int .i64 z) = false
  size : Maps.size D = ns.length
theorem MapI.nil : MapI (.map []) [] := ⟨fun i s h => by simp at h, fun s _ => rfl, rfl⟩
theorem ikey_inj {a b : Int} (h : Lit.int .i64 a = Lit.int .i64 b) : a = b := by injection h
theorem MapI.snoc {D : DataW Unit} {ns : List Int} (h : MapI D ns) (hD : IsMap D) (hT : Tidy D) (s : Int) (hs : s ∉ ns) : MapI (D.put (.int .i64 s) (.lit (.int .i64 ns.length))) (ns ++ [s]) := by
  refine ⟨fun i t ht => ?_, fun t ht => ?_, ?_⟩
  · rcases Nat.lt_or_ge i ns.length with hi | hi
    · rw [List.getElem?_append_left hi] at ht
      have hne : Lit.int .i64 t ≠ Lit.int .i64 s := fun e => hs (ikey_inj e ▸ List.mem_of_getElem? ht)
      rw [has_put_other hne, atKey_put_other hne]
      exact h.yes i t ht
    · rw [List.getElem?_append_right hi] at ht
      have hi0 : i - ns.length = 0 := by
        have := (List.getElem?_eq_some_iff.1 ht).1
        simp at this; omega
      rw [hi0] at ht
      simp at ht
      subst ht
      have : i = ns.length := by omega
      subst this
      have hk : WideAt.IsKeyLit (.int .i64 s) := trivial
      exact ⟨has_put_same hD hk _, atKey_put_same hD hk _ _⟩
  · have hne : Lit.int .i64 t ≠ Lit.int .i64 s := fun e => ht (by rw [ikey_inj e]; simp)
    rw [has_put_other hne]
    exact h.no t fun hm => ht (by simp [hm])
  · rw [size_put hT, h.no s hs]
    simp [h.size]
theorem Sy.place_mem {z : Int} {l : List Int} : Sy.place z l < l.length ↔ z ∈ l := by
  induction l with
  | nil => simp [Sy.place]
  | cons a r ih =>
    unfold Sy.place
    by_cases h : a = z
    · simp [h]
    · have h2 : z ≠ a := fun e => h e.symm
      simp [h, h2, ← ih]
theorem Sy.place_no {z : Int} {l : List Int} (h : z ∉ l) : Sy.place z l = l.length := by
  have h1 := Sy.place_le z l
  have h2 : ¬ Sy.place z l < l.length := fun e => h (Sy.place_mem.1 e)
  omega
theorem Tryz.lawI7 : Keyed Tryz.prog 3 := int_keyed Tryz.underlying3
theorem Tryz.zeroI7 (w : World) : (zeroValue 3).run Tryz.prog w = .ok (.int .i64 0) w := by kernel_rfl
/-- The list being made, and the map, in memory. -/
structure NumAt (w wr : World) (zs : List Int) (n i : Nat) (D : DataW Unit) (seen : List Int) : Prop where
  arr : Arr 3 w wr (w.heap.size + 1) (natC (Sy.canonG [] (zs.take i)) ++ List.replicate (n - i) (.int .i64 0))
  own : wr.ownsMap (H := Unit) Tryz.prog 3 (plainElem Tryz.prog 3) w.heap.size seen.length D
  map : MapI D seen
theorem Sy.top_canonG (l : List Int) : ∀ seen : List Int, max seen.length (Sy.top (Sy.canonG seen l)) = (Sy.seenG seen l).length := by
  induction l with
  | nil => intro seen; simp [Sy.canonG, Sy.top, Sy.seenG]
  | cons c r ih =>
    intro seen
    simp only [Sy.canonG, Sy.top, Sy.seenG]
    rw [← ih]
    have h1 := Sy.place_le c seen
    split <;> (try simp) <;> omega
theorem Sy.together_eq (zs : List Int) : Sy.together zs = (Sy.seenG [] zs).length := by
  rw [← Sy.top_canonG zs []]
  simp [Sy.together, Sy.canon]
theorem arr_mapTurn {w wr w3 : World} {gi : Nat} {vs : List Value} {bm : Nat} (h : Arr 3 w wr gi vs) (hg : wr.grownBy w3 (some bm)) (hb : w.heap.size ≤ bm) (hne : bm ≠ gi) : Arr 3 w w3 gi vs :=
  h.kept (Kept.of_grown hg) fun b e => by injection e with e; subst e; exact ⟨hb, hne⟩
theorem num_step {w w3 w4 : World} {zs : List Int} {n i k : Nat} {D2 : DataW Unit} {seen s2 : List Int} {z : Int} (hz : zs[i]? = some z) (hi : i < n) (hn : n = zs.length) (hs : seen = Sy.seenG [] (zs.take i)) (hA : Arr 3 w w3 (w.heap.size + 1) (natC (Sy.canonG [] (zs.take i)) ++ List.replicate (n - i) (.int .i64 0)))
    (hk : k = Sy.place z seen) (h4 : w4 = w3.setCell ⟨w.heap.size + 1, i, none⟩ (.int .i64 (k : Int))) (ho : w3.ownsMap (H := Unit) Tryz.prog 3 (plainElem Tryz.prog 3) w.heap.size s2.length D2) (hm : MapI D2 s2) :
    NumAt w w4 zs n (i + 1) D2 s2 := by
  subst h4
  have hC : (Sy.canonG [] (zs.take i)).length = i := by rw [Sy.canonG_len, List.length_take]; omega
  have hAs := hA.set i (.int .i64 (k : Int))
  rw [natC_step _ n i k hC hi] at hAs
  refine ⟨?_, ho.setCell (by simp) _, hm⟩
  rw [Sy.canon_step hz, ← hs, ← hk]
  exact hAs
set_option maxRecDepth 100000 in
set_option maxHeartbeats 8000000 in
theorem numbered_any (v : Value) (zs : List Int) (w : World) (hv : HasI w v zs) (hn : zs.length ≤ 100000) (hw : I64s zs) :
    Calls Tryz.prog 37 #[v] w fun e w' => ∃ u, e = .returned (.tuple #[u, .int .i64 (Sy.together zs : Nat)]) ∧ OwnI w' w.heap.size u (natI (Sy.canon zs)) ∧ Below w.heap.size w w' := by
  obtain ⟨ao, cap, rfl, hcs⟩ := hv
  obtain ⟨n, hN⟩ : ∃ n, n = zs.length := ⟨_, rfl⟩
  have HH : Hid _ := And.intro hcs (And.intro hN hw)
  rw [← hN] at hn ⊢
  clear hcs hN hw
  have hmm := @run_makeMap Tryz.prog
  have hmk := makeI n (by omega) (w.alloc (.map #[] 0))
  go_enter Tryz.func37, Tryz.ntmps37
  go_wp2_with fail
  clear hmk hmm
  go_loopg [16] n (fun q iv wr => ∃ (i : Nat) (D : DataW Unit) (seen : List Int), q = n - i ∧ i ≤ n ∧ iv = .int .i64 i ∧ seen = Sy.seenG [] (zs.take i) ∧ NumAt w wr zs n i D seen)
  case atStart =>
    refine ⟨0, .map [], [], rfl, Nat.zero_le _, rfl, by simp [Sy.seenG], ?_, ?_, MapI.nil⟩
    · have h1 := arr_new 3 (.int .i64 0) rfl n (w.alloc (.map #[] 0))
      have h2 := h1.back ((Below.refl _ w).alloc (Nat.le_refl _) _)
      simpa [Sy.canonG, natC] using h2
    · have := World.ownsMap_made (H := Unit) w Tryz.prog 3 (plainElem Tryz.prog 3)
      exact this.alloc _
  case round =>
    obtain ⟨i, D, seen, rfl, hi, rfl, hseen, hM⟩ := hrel
    by_cases hlt : i < n
    · obtain ⟨z, hz⟩ : ∃ z, zs[i]? = some z := ⟨zs[i]'(by have := HH.out.2.1; omega), List.getElem?_eq_getElem _⟩
      obtain ⟨a, rfl, c0⟩ := HH.out.1 i z hz
      have cz : wr.cell? (a.add i) = some (.int .i64 z) := (hM.arr.bl.cell (World.block_lt_of_cell? w _ c0)).trans c0
      have hzw : (Lit.int .i64 z).wf = true := HH.out.2.2 z (List.mem_of_getElem? hz)
      have hkey : keyOf Tryz.prog 3 (.int .i64 z) = some (.int .i64 z) := keyOf_int_mk Tryz.underlying3 hzw
      have q0 : (0 : Int) ≤ (i : Int) := by omega
      have q1 : (i : Int) < (n : Int) := by omega
      have hsl : seen.length ≤ i := by
        have := Sy.seenG_len (zs.take i) []
        rw [← hseen, List.length_take] at this
        simp at this; omega
      have hix : (natC (Sy.canonG [] (zs.take i)) ++ List.replicate (n - i) (Value.int .i64 0))[i]? = some (.int .i64 0) := by
        rw [List.getElem?_append_right (by rw [natC_len, Sy.canonG_len, List.length_take]; omega), natC_len, Sy.canonG_len, List.length_take, List.getElem?_replicate, if_pos (by have := HH.out.2.1; omega)]
      have hst := Sy.seen_step hz
      rw [← hseen] at hst
      by_cases hin : z ∈ seen
      · obtain ⟨hy1, hy2⟩ := hM.map.yes _ z (Sy.place_at hin)
        have cx := hM.arr.cell hix
        have cf := hM.arr.free i
        rw [if_pos (Sy.place_mem.2 hin)] at hst
        have HO : Hid (wr.ownsMap (H := Unit) Tryz.prog 3 (plainElem Tryz.prog 3) w.heap.size seen.length D) := hM.own
        have HY : Hid (D.atKey (.int .i64 z) (.lit (.int .i64 0)) = .lit (.int .i64 (Sy.place z seen : Nat))) := hy2
        have HM : Hid _ := And.intro hM (And.intro hseen (And.intro hz hst))
        clear hM hseen hz hst hy2 hix c0 hin hzw
        obtain ⟨k, hk⟩ : ∃ k, k = Sy.place z seen := ⟨_, rfl⟩
        rw [← hk] at HY
        have HK : Hid (k = Sy.place z seen) := hk
        clear hk
        go_wp2_with (at_lookup; refine wpList_lookup_own_ok_int _ rfl _ _ 123 rfl 3 3 .i64 Tryz.lawI7 Tryz.underlying123 Tryz.underlying3 (Tryz.zeroI7 _) w.heap.size seen.length D rfl HO.out _ _ rfl hkey ?_; rw [hy1]; intro c hat hwc; obtain rfl : c = (k : Int) := (by rw [HY.out] at hat; injection hat with hat; injection hat with _ hat; exact hat.symm); clear hat hwc)
        go_roundg (n - (i + 1))
        case measure => omega
        case rel =>
          exact ⟨i + 1, D, seen, rfl, by omega, by go_num, HM.out.2.2.2.symm, num_step HM.out.2.2.1 hlt HH.out.2.1 HM.out.2.1 HM.out.1.arr HK.out rfl HO.out HM.out.1.map⟩
      · have hy1 := hM.map.no z hin
        rw [if_neg fun e => hin (Sy.place_mem.1 e)] at hst
        have HO : Hid (wr.ownsMap (H := Unit) Tryz.prog 3 (plainElem Tryz.prog 3) w.heap.size seen.length D) := hM.own
        have hml : seen.length < maxLen := by unfold maxLen; omega
        have hsz : Maps.size D = seen.length := hM.map.size
        obtain ⟨m, hm⟩ : ∃ m, m = seen.length := ⟨_, rfl⟩
        have HM : Hid _ := And.intro hM (And.intro hseen (And.intro hz (And.intro hst (And.intro hin (And.intro hix hm)))))
        rw [← hm] at HO hml hsz hsl
        have hwf : (Lit.int .i64 (m : Int)).wf = true := WalkArith.wf_i64 (by omega)
        have HS : Hid _ := hsz
        clear hM hseen hz hst hix c0 hin hzw hm hsz
        go_wp2_with (first
          | (at_lookup; refine wpList_lookup_own_ok_int _ rfl _ _ 123 rfl 3 3 .i64 Tryz.lawI7 Tryz.underlying123 Tryz.underlying3 (Tryz.zeroI7 _) w.heap.size m D rfl HO.out _ _ rfl hkey ?_; rw [hy1]; intro c hat hwc; clear hat hwc)
          | (at_len; refine wpList_len_own _ rfl _ 123 rfl 3 3 Tryz.underlying123 _ w.heap.size m D rfl HO.out ?_; rw [HS.out])
          | (at_mapUpdate; refine wpList_mapUpdate_own _ rfl _ _ _ 123 rfl 3 3 Tryz.lawI7 Tryz.underlying123 _ w.heap.size m D rfl HO.out hml _ _ _ rfl rfl hkey _ [] (plainElem_int Tryz.underlying3 hwf) ?_; intro w3 hown3 hgrow3; have hA3 := arr_mapTurn HM.out.1.arr hgrow3 (Nat.le_refl _) (by omega); have cx := hA3.cell HM.out.2.2.2.2.2.1; have cf := hA3.free i; have H3 : Hid _ := And.intro hA3 hown3; clear hA3 hown3 hgrow3))
        go_roundg (n - (i + 1))
        case measure => omega
        case rel =>
          have hm := HM.out.2.2.2.2.2.2
          have h3 := H3.out.2
          have hmp := HM.out.1.map.snoc HM.out.1.own.isMap (HM.out.1.own.tidy Tryz.lawI7) z HM.out.2.2.2.2.1
          rw [← hm] at hmp
          have el : m + 1 = (seen ++ [z]).length := by simp [hm]
          rw [el] at h3
          exact ⟨i + 1, _, seen ++ [z], rfl, by omega, by go_num, HM.out.2.2.2.1.symm, num_step HM.out.2.2.1 hlt HH.out.2.1 HM.out.2.1 H3.out.1 (by rw [Sy.place_no HM.out.2.2.2.2.1, hm]) rfl h3 hmp⟩
    · obtain rfl : i = n := by omega
      have hsz : Maps.size D = seen.length := hM.map.size
      have HO : Hid (wr.ownsMap (H := Unit) Tryz.prog 3 (plainElem Tryz.prog 3) w.heap.size seen.length D) := hM.own
      have HM : Hid _ := And.intro hM (And.intro hseen hsz)
      obtain ⟨m, hm⟩ : ∃ m, m = seen.length := ⟨_, rfl⟩
      rw [← hm] at HO
      have HS : Hid (Maps.size D = m) := hsz.trans hm.symm
      have HN : Hid _ := hm
      clear hM hseen hsz hm
      go_wp2_with (at_len; refine wpList_len_own _ rfl _ 123 rfl 3 3 Tryz.underlying123 _ w.heap.size m D rfl HO.out ?_; rw [HS.out])
      go_ret2
      have hA := HM.out.1.arr
      have hl : i = zs.length := HH.out.2.1
      rw [hl, Nat.sub_self, List.replicate_zero, List.append_nil, List.take_length] at hA
      have how := (hA.own (by rw [natC_len, Sy.canonG_len]; unfold maxLen; omega))
      rw [natC_len, Sy.canonG_len] at how
      refine ⟨.slice (some ⟨w.heap.size + 1, 0, none⟩) zs.length zs.length, by rw [HN.out, HM.out.2.1, hl, List.take_length, ← Sy.together_eq]; rfl, ?_, HM.out.1.arr.bl⟩
      unfold OwnI
      rw [iC_nat, show (natI (Sy.canon zs)).length = zs.length by simp [natI, Sy.canon, Sy.canonG_len]]
      exact how
end Go.Proofs.YtihdpncjgmpboaaGreatDoor
/- Contract of slices.Equal of numbers. -/
namespace Go.Proofs.YtihdpncjgmpboaaGreatDoor
open Go.RowKit Go.Maps
theorem take_both5 {α : Type} {a b : List α} {j : Nat} {x : α} (ha : a[j]? = some x) (hb : b[j]? = some x) (h : a.take j = b.take j) : a.take (j + 1) = b.take (j + 1) := by
  rw [take_succ_of ha, take_succ_of hb, h]
theorem eq_len5 {α : Type} {a b : List α} {n : Nat} (ha : a.length = n) (hb : b.length = n) (h : a.take n = b.take n) : a = b := by
  rw [List.take_of_length_le (by omega), List.take_of_length_le (by omega)] at h
  exact h
end Go.Proofs.YtihdpncjgmpboaaGreatDoor
