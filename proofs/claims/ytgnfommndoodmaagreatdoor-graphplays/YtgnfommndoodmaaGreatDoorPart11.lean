/- Texts of this claim, joined: SyCup, SySmI, SyPl2. -/
import Derived.Test.YtgnfommndoodmaaGreatDoorPart10
import Derived.Deep.DeepCutAuto
import Derived.Test.YtgnfommndoodmaaGreatDoorPart0
import Derived.Deep.QuietTactic
import Derived.BigQuiet
import Derived.Test.YtgnfommndoodmaaGreatDoorPart9
/- Contract of the program's Cut. (Written by mkcup.py.) -/
namespace Go.Proofs.YtgnfommndoodmaaGreatDoor
open Go.RowKit Go.Maps
attribute [local go_sem ↓] Go.wp_at_zero Go.wp_at_succ
theorem bel9 {w W w8 : World} (hb : Below W.heap.size W w8) (h : Below w.heap.size w W) : Below w.heap.size w w8 := h.trans (hb.mono h.size)
theorem res_up9 {W w8 : World} {b : Nat} {o : Obj} (hb : Below W.heap.size W w8) (h : W.heap[b]? = some o) : w8.heap[b]? = some o := (hb.block b (t_lt h)).trans h
set_option maxRecDepth 100000 in
theorem labels_any {B g bs bb cs cb n : Nat} {k s : Int} {es : List Sy.Ed} (w : World) (h : Gr w B g bs bb cs cb n k s es) : Calls Tryz.prog 23 #[.pointer (some ⟨g, 0, none⟩)] w fun r w' => r = .returned (.int .i64 k) ∧ w' = w := by
  obtain ⟨_, c1, _, _, _, _⟩ := h.cells
  have hq := Tryz.eqG g
  clear h
  go_enter Tryz.func23, Tryz.ntmps23
  go_wp2
  go_ret
  exact ⟨rfl, rfl⟩
/-- What stands in memory while Cut gathers the edges. -/
structure CuAt (w wr : World) (b8 : Nat) (ur un u : Value) (ms : List Bool) (c : Nat) (k st : Int) (ys : List Sy.Ed) : Prop where
  bl : Below w.heap.size w wr
  rr : OwnI wr w.heap.size ur (Sy.marked ms)
  nn : OwnI wr w.heap.size un (Sy.ranks ms)
  rs : wr.heap[w.heap.size]? = some (.cells #[.int .i64 0, .int .i64 0, .int .i64 0, .slice none 0 0] 24 (0, 0))
  bx : wr.heap[b8]? = some (.cells #[.int .i64 c, .int .i64 k, .int .i64 st, u] 24 (0, 0))
  eo : BEdges.Own wr w.heap.size u ys
  hb : w.heap.size < b8
theorem CuAt.below {w wr w' : World} {b8 : Nat} {ur un u : Value} {ms : List Bool} {c : Nat} {k st : Int} {ys : List Sy.Ed} (h : CuAt w wr b8 ur un u ms c k st ys) (hb : Below wr.heap.size wr w') : CuAt w w' b8 ur un u ms c k st ys :=
  ⟨bel9 hb h.bl, trow_at h.rr fun b e => hb.block b (h.rr.lt b e).2, trow_at h.nn fun b e => hb.block b (h.nn.lt b e).2, res_up9 hb h.rs, res_up9 hb h.bx, trow_at h.eo fun b e => hb.block b (h.eo.lt b e).2, h.hb⟩
theorem CuAt.push {w wr w4 : World} {b8 : Nat} {ur un u u2 : Value} {ms : List Bool} {c : Nat} {k st : Int} {ys : List Sy.Ed} {N : Nat} {z : Sy.Ed} (h : CuAt w wr b8 ur un u ms c k st ys) (hN : N = ys.length) (hown : w4.ownsRow w.heap.size 38 3 u2 (N + 1) (BEdges.C ys ++ BEdges.enc z)) (hk : Kept (fun b => u.ownBlock = some b) wr w4) : CuAt w (w4.setCell ⟨b8, 3, none⟩ u2) b8 ur un u2 ms c k st (ys ++ [z]) := by
  have hO : BEdges.Own w4 w.heap.size u2 (ys ++ [z]) := by
    unfold BEdges.Own
    rw [BEdges.C_snoc, List.length_append, ← hN]
    exact hown
  have hbx4 : w4.heap[b8]? = some (.cells #[.int .i64 c, .int .i64 k, .int .i64 st, u] 24 (0, 0)) := (hk.block b8 (t_lt h.bx) (own_bk h.eo h.bx (by decide))).trans h.bx
  have hr4 : OwnI w4 w.heap.size ur (Sy.marked ms) := own_up h.rr hk fun b e => own_ne h.rr h.eo (by decide) b e
  have hn4 : OwnI w4 w.heap.size un (Sy.ranks ms) := own_up h.nn hk fun b e => own_ne h.nn h.eo (by decide) b e
  have hs4 := (hk.block w.heap.size (t_lt h.rs) (own_bk h.eo h.rs (by decide))).trans h.rs
  refine ⟨(h.bl.trans (hk.below h.bl.size fun b hb => (h.eo.lt b hb).1)).setCell (Nat.le_of_lt h.hb) _, trow_at hr4 fun b e => set_other _ _ _ _ _ (fun q => own_bk hr4 hbx4 (by decide) (q ▸ e)), trow_at hn4 fun b e => set_other _ _ _ _ _ (fun q => own_bk hn4 hbx4 (by decide) (q ▸ e)), (set_other _ _ _ _ _ (by have := h.hb; omega)).trans hs4, ?_, trow_at hO fun b e => set_other _ _ _ _ _ (fun q => own_bk hO hbx4 (by decide) (q ▸ e)), h.hb⟩
  exact heap_setCell_same w4 b8 3 _ _ u2 hbx4
theorem iC_set (l : List Int) (p : Nat) (x : Int) : (iC l).set p (.int .i64 x) = iC (l.set p x) := by unfold iC; rw [List.map_set]
theorem start_rea {es : List Sy.Ed} {s : Int} {n p : Nat} {ms : List Bool} (hs : s = (p : Int)) (hp : p < n) (h : ∀ q : Nat, q < n → (ms[q]? = some true ↔ Sy.Rea es s q)) : ms[p]? = some true := (h p hp).2 (by rw [hs]; exact Sy.Rea.start)
set_option maxRecDepth 100000 in
set_option maxHeartbeats 16000000 in
set_option linter.unusedSimpArgs false in
theorem cut_any {B g bs bb cs cb n : Nat} {k s : Int} {es : List Sy.Ed} (w : World) (h : Gr w B g bs bb cs cb n k s es) : Calls Tryz.prog 32 #[.pointer (some ⟨g, 0, none⟩)] w fun r w' => ∃ (ms : List Bool) (u va : Value), r = .returned (.tuple #[sysV (ms.count true : Nat) k (Sy.startOf n ms s) u, va]) ∧ ms.length = n ∧ (∀ p : Nat, p < n → (ms[p]? = some true ↔ Sy.Rea es s p)) ∧ BEdges.Own w' w.heap.size u (Sy.cutE ms (Sy.nf es)) ∧ OwnI w' w.heap.size va (Sy.ranks ms) ∧ Below w.heap.size w w' := by
  obtain ⟨i0, hi0, hz0, hz1, hz2⟩ := info_parts BEdges.Tryz.infoE
  have hs := h.sizes
  have hrp := right_parts h.right
  have hn : n ≤ 1000 := hs.1
  obtain ⟨w1, hw1⟩ : ∃ w1, w1 = w.alloc (.cells #[.int .i64 0, .int .i64 0, .int .i64 0, .slice none 0 0] 24) := ⟨_, rfl⟩
  have hb1 : Below w.heap.size w w1 := by rw [hw1]; exact (Below.refl _ _).alloc (Nat.le_refl _) _
  have hg1 : w1.heap[w.heap.size]? = some (.cells #[.int .i64 0, .int .i64 0, .int .i64 0, .slice none 0 0] 24 (0, 0)) := by rw [hw1]; exact heap_alloc_new w _
  have HG : Hid (Gr w B g bs bb cs cb n k s es ∧ (Sy.nf es).length ≤ 10000) := ⟨h, hs.2⟩
  have H1 : Hid _ := And.intro hw1 (And.intro hb1 (And.intro hg1 (reach_any w1 (h.below hb1))))
  have HR : Hid _ := hrp
  clear h hs hw1 hb1 hg1 hrp
  go_enter Tryz.func32, Tryz.ntmps32
  go_wp2_with fail
  rw [← H1.out.1]
  refine Calls.mono H1.out.2.2.2 ?_
  rintro r w2 ⟨ur, ms, rfl, hO2, hml, hms, hb2⟩
  obtain ⟨ar, kr, hur⟩ := row_shape hO2
  obtain ⟨N, hN⟩ : ∃ N, N = (Sy.marked ms).length := ⟨_, rfl⟩
  rw [← hN] at hur
  subst hur
  have hNc : N = ms.count true := by rw [hN, Sy.marked_len]
  have hNn : N ≤ n := by rw [hNc, ← hml]; exact List.count_le_length
  obtain ⟨w3, hw3⟩ : ∃ w3, w3 = w2.alloc (.cells #[.int .i64 (-1)] 3) := ⟨_, rfl⟩
  have hb3 : Below w2.heap.size w2 w3 := by rw [hw3]; exact (Below.refl _ _).alloc (Nat.le_refl _) _
  have hg3 : w3.heap[w2.heap.size]? = some (.cells #[.int .i64 (-1)] 3 (0, 0)) := by rw [hw3]; exact heap_alloc_new w2 _
  have hb13 := bel9 hb3 hb2
  have hG3 := HG.out.1.below (bel9 hb13 H1.out.2.1)
  have hSt := states_any w3 hG3
  have hRp := repeat_any w2.heap.size n w3 (by omega) (cell0_of hg3 rfl)
  have H3 : Hid (w3 = w2.alloc (.cells #[.int .i64 (-1)] 3) ∧ Below w.heap.size w w3 ∧ OwnI w3 w1.heap.size (.slice ar N kr) (Sy.marked ms) ∧ w3.heap[w.heap.size]? = some (.cells #[.int .i64 0, .int .i64 0, .int .i64 0, .slice none 0 0] 24 (0, 0)) ∧ Gr w3 B g bs bb cs cb n k s es ∧ w.heap.size < w1.heap.size) := ⟨hw3, bel9 hb13 H1.out.2.1, trow_at hO2 fun b e => hb3.block b (hO2.lt b e).2, res_up9 hb13 H1.out.2.2.1, hG3, t_lt H1.out.2.2.1⟩
  have HC : Hid _ := And.intro hSt hRp
  have HMs : Hid (ms.length = n ∧ (∀ p : Nat, p < n → (ms[p]? = some true ↔ Sy.Rea es s p)) ∧ N = ms.count true ∧ N = (Sy.marked ms).length) := ⟨hml, hms, hNc, hN⟩
  clear hO2 hml hms hb2 hN hNc hw3 hb3 hg3 hb13 hG3 hSt hRp H1
  go_wp2_with (first
    | (go_at_call 22; rw [← H3.out.1]; refine Calls.mono HC.out.1 ?_; rintro r w9 ⟨rfl, hw9⟩; obtain rfl := hw9.symm; clear hw9)
    | (go_at_call 48; refine Calls.mono HC.out.2 ?_; rintro r w4 ⟨ga, rfl, hA4⟩; have H4 : Hid _ := hA4; clear hA4)
    | fail)
  go_loopg [21] N (fun q iv wr => ∃ i : Nat, q = N - i ∧ i ≤ N ∧ iv = .int .i64 i ∧ Arr 3 w3 wr ga (iC (Sy.numL n ms i)))
  case atStart => exact ⟨0, rfl, Nat.zero_le _, rfl, by rw [Sy.numL_zero]; have h9 := H4.out; unfold iC; rw [List.map_replicate]; exact h9⟩
  case round =>
    obtain ⟨i, rfl, hi, rfl, hA⟩ := hrel
    clear H4
    by_cases hlt : i < N
    · obtain ⟨z, hz⟩ : ∃ z, (Sy.marked ms)[i]? = some z := ⟨(Sy.marked ms)[i]'(by have := HMs.out.2.2.2; omega), List.getElem?_eq_getElem _⟩
      obtain ⟨p, rfl, hpl, hpt, hpc⟩ := Sy.marked_at hz
      have hpn : p < n := by have := HMs.out.1; omega
      obtain ⟨gr, rfl, c0⟩ := own_num (trow_at (w' := wr) H3.out.2.2.1 fun b e => hA.bl.block b (H3.out.2.2.1.lt b e).2) hz
      obtain ⟨x, hx⟩ : ∃ x, (iC (Sy.numL n ms i))[p]? = some x := ⟨_, List.getElem?_eq_getElem (by rw [iC_length, Sy.numL_len]; omega)⟩
      have c1 := hA.cell hx
      have f1 := hA.free p
      have hA2 := hA.set p (.int .i64 i)
      rw [iC_set, Sy.numL_set hpt hpc HMs.out.1] at hA2
      have p0 : (0 : Int) ≤ (i : Int) := by omega
      have p1 : (i : Int) < (N : Int) := by omega
      have p2 : (0 : Int) ≤ (p : Int) := by omega
      have p3 : (p : Int) < (n : Int) := by omega
      have HA : Hid _ := hA2
      clear hA hA2 hz hx hpl hpt hpc
      go_wp2_with fail
      go_roundg (N - (i + 1))
      case measure => omega
      case rel => exact ⟨i + 1, rfl, by omega, by go_num, HA.out⟩
    · obtain rfl : i = N := by omega
      have p1 : ¬ (i : Int) < (i : Int) := by omega
      have hcn := HMs.out.2.2.1
      rw [hcn, Sy.numL_full HMs.out.1] at hA
      have hG := H3.out.2.2.2.2.1.below hA.bl
      obtain ⟨_, _, s2, _, _, _⟩ := hG.cells
      have hLb := labels_any wr hG
      obtain ⟨w5, hw5⟩ : ∃ w5, w5 = wr.alloc (.cells #[.int .i64 i, .int .i64 k, .int .i64 0, .slice none 0 0] 24) := ⟨_, rfl⟩
      have hb5 : Below wr.heap.size wr w5 := by rw [hw5]; exact (Below.refl _ _).alloc (Nat.le_refl _) _
      have hg5 : w5.heap[wr.heap.size]? = some (.cells #[.int .i64 i, .int .i64 k, .int .i64 0, .slice none 0 0] 24 (0, 0)) := by rw [hw5]; exact heap_alloc_new wr _
      have hOn : OwnI wr w3.heap.size (.slice (some ⟨ga, 0, none⟩) n n) (Sy.ranks ms) := by
        have h9 := hA.own (by rw [iC_length, Sy.ranks_len, HMs.out.1]; unfold maxLen; omega)
        rw [iC_length, Nat.mul_one, Sy.ranks_len, HMs.out.1] at h9
        unfold OwnI
        rw [Sy.ranks_len, HMs.out.1]
        exact h9
      have s1 := H3.out.2.1.size
      have hb35 := bel9 hb5 hA.bl
      have hC5 : CuAt w w5 wr.heap.size (.slice ar i kr) (.slice (some ⟨ga, 0, none⟩) n n) (.slice none 0 0) ms i k 0 [] := ⟨bel9 hb35 H3.out.2.1, row_base (trow_at (w' := w5) H3.out.2.2.1 fun b e => hb35.block b (H3.out.2.2.1.lt b e).2) (Nat.le_of_lt H3.out.2.2.2.2.2), row_base (trow_at (w' := w5) hOn fun b e => hb5.block b (hOn.lt b e).2) s1, res_up9 hb35 H3.out.2.2.2.1, hg5, World.ownsRow_nil _ _ _ _, by have := hA.bl.size; have := t_lt H3.out.2.2.2.1; omega⟩
      have H5 : Hid (w5 = wr.alloc (.cells #[.int .i64 i, .int .i64 k, .int .i64 0, .slice none 0 0] 24) ∧ CuAt w w5 wr.heap.size (.slice ar i kr) (.slice (some ⟨ga, 0, none⟩) n n) (.slice none 0 0) ms i k 0 []) := ⟨hw5, hC5⟩
      have HLb : Hid _ := hLb
      have t2 := cell_up s2 hb5
      have d2 := cell0_of (k := 2) hg5 rfl
      have fz := blk_free hg5 2
      obtain ⟨b8, hb8⟩ : ∃ b8, b8 = wr.heap.size := ⟨_, rfl⟩
      rw [← hb8] at H5 d2 fz
      have HB8 : Hid _ := hb8
      obtain ⟨wz, rfl⟩ : ∃ wz, wz = wr := ⟨_, rfl⟩
      clear hA hG hLb hw5 hb5 hg5 hOn s1 hb35 hC5 s2 hcn
      go_upto_if 38 with (go_at_call 23; refine Calls.mono HLb.out ?_; rintro r w9 ⟨rfl, hw9⟩; obtain rfl := hw9.symm; clear hw9)
      rw [← hb8, ← H5.out.1]
      clear hb8
      go_cut [38] (fun s38 wx => CuAt w wx b8 (.slice ar i kr) (.slice (some ⟨ga, 0, none⟩) n n) (.slice none 0 0) ms i k (Sy.startOf n ms s) [])
      case first =>
        by_cases hz : i = 0
        · have e0 : ¬ (0 : Int) < (i : Int) := by omega
          have hst : Sy.startOf n ms s = 0 := by
            unfold Sy.startOf
            by_cases hn0 : 0 < n
            · obtain ⟨p, hp⟩ : ∃ p : Nat, s = (p : Int) := ⟨s.toNat, by have := HR.out.2.2.2.2.1 (by omega); omega⟩
              have hpn : p < n := by have := HR.out.2.2.2.2.1 (by omega); omega
              have h1 := Sy.count_step (start_rea hp hpn HMs.out.2.1)
              have h2 := Sy.count_mono ms (show p + 1 ≤ ms.length by have := HMs.out.1; omega)
              rw [List.take_length] at h2
              have h3 := HMs.out.2.2.1
              omega
            · rw [if_neg hn0]
          have Hst : Hid _ := And.intro hst hz
          clear hst hz
          go_wp2_with fail
          go_meet
          rw [Hst.out.1]
          exact H5.out.2
        · have e0 : (0 : Int) < (i : Int) := by omega
          have hn0 : 0 < n := by omega
          obtain ⟨p, hp⟩ : ∃ p : Nat, s = (p : Int) := ⟨s.toNat, by have := HR.out.2.2.2.2.1 (by omega); omega⟩
          have hpn : p < n := by have := HR.out.2.2.2.2.1 (by omega); omega
          have hst : Sy.startOf n ms s = Sy.rk ms (p : Int) := by unfold Sy.startOf; rw [if_pos hn0, hp]
          obtain ⟨ga', hga', cn⟩ := own_num H5.out.2.nn (Sy.rk_at (i := p) (by have := HMs.out.1; omega))
          obtain rfl : ga = ga' := by injection hga' with e1; injection e1
          rw [hp] at t2
          have p2 : (0 : Int) ≤ (p : Int) := by omega
          have p3 : (p : Int) < (n : Int) := by omega
          obtain ⟨rp, hrp⟩ : ∃ rp, rp = Sy.rk ms (p : Int) := ⟨_, rfl⟩
          rw [← hrp] at cn hst
          have Hst : Hid (Sy.startOf n ms s = rp) := hst
          clear hst hrp hga' hp
          go_wp2_with fail
          go_meet
          rw [Hst.out]
          have h := H5.out.2
          have h3 := heap_setCell_same w5 b8 2 _ _ (.int .i64 rp) h.bx
          refine ⟨h.bl.setCell (Nat.le_of_lt h.hb) _, trow_at h.rr fun b e => set_other _ _ _ _ _ (fun q => own_bk h.rr h.bx (by decide) (q ▸ e)), trow_at h.nn fun b e => set_other _ _ _ _ _ (fun q => own_bk h.nn h.bx (by decide) (q ▸ e)), (set_other _ _ _ _ _ (by have := h.hb; omega)).trans h.rs, h3, World.ownsRow_nil _ _ _ _, h.hb⟩
      case rest =>
        have H6 : Hid _ := hcut
        obtain ⟨st, hst⟩ : ∃ st, st = Sy.startOf n ms s := ⟨_, rfl⟩
        rw [← hst] at H6
        have Hst : Hid (st = Sy.startOf n ms s) := hst
        clear hcut H5 HLb t2 d2 fz hst
        obtain ⟨l, hl⟩ : ∃ l, l = Sy.nf es := ⟨_, rfl⟩
        have HL : Hid (l = Sy.nf es ∧ Sy.Rows l ∧ l.length ≤ 10000) := (by rw [hl]; exact ⟨rfl, nf_rows es, HG.out.2⟩ : l = Sy.nf es ∧ Sy.Rows l ∧ l.length ≤ 10000)
        clear hl
        go_wp2_with fail
        go_loopg [49] i (fun q iv wr => ∃ (j a : Nat) (u : Value), q = i - j ∧ j ≤ i ∧ iv = .int .i64 j ∧ CuAt w wr b8 (.slice ar i kr) (.slice (some ⟨ga, 0, none⟩) n n) u ms i k st (Sy.upE ms l a) ∧ a ≤ n ∧ (ms.take a).count true = j)
        case atStart => exact ⟨0, 0, _, rfl, Nat.zero_le _, rfl, by
          have h9 := H6.out
          have e9 : Sy.upE ms l 0 = [] := by
            unfold Sy.upE
            rw [HL.out.1]
            show Sy.cutE ms ((Sy.nf es).take (Sy.cnt (Sy.nf es) 0)) = []
            rw [Sy.take_none HG.out.1.right]
            rfl
          rw [e9]
          exact h9, Nat.zero_le _, by simp⟩
        case round =>
          obtain ⟨j, a, u, rfl, hj, rfl, hC, han, hac⟩ := hrel
          clear H6
          by_cases hlt : j < i
          · obtain ⟨z, hz⟩ : ∃ z, (Sy.marked ms)[j]? = some z := ⟨(Sy.marked ms)[j]'(by have := HMs.out.2.2.2; omega), List.getElem?_eq_getElem _⟩
            obtain ⟨p, rfl, hpl, hpt, hpc⟩ := Sy.marked_at hz
            have hpn : p < n := by have := HMs.out.1; omega
            obtain ⟨gr, rfl, c0⟩ := own_num hC.rr hz
            have hap : a ≤ p := by
              rcases Nat.lt_or_ge p a with h1 | h1
              · have h2 := Sy.count_step hpt
                have h3 := Sy.count_mono ms (show p + 1 ≤ a by omega)
                omega
              · exact h1
            rw [Sy.upE_skip HL.out.2.1 p hap (by omega) (by omega)] at hC
            have hG := HG.out.1.below hC.bl
            obtain ⟨_, _, _, ⟨c3, c4⟩, _, _⟩ := hG.cells
            have hR := hG.row (p : Int)
            have hT := hG.out
            rw [rowOf_in _ hpn, ← HL.out.1] at hR
            rw [← HL.out.1] at c3
            obtain ⟨Ln, hLn⟩ : ∃ Ln, Ln = l.length := ⟨_, rfl⟩
            rw [← hLn] at hR c3
            have p0 : (0 : Int) ≤ (j : Int) := by omega
            have p1 : (j : Int) < (i : Int) := by omega
            have HRr : Hid _ := And.intro hR (And.intro hC hT)
            have HP : Hid (ms[p]? = some true ∧ (ms.take p).count true = j ∧ Sy.rk ms (p : Int) = (j : Int)) := ⟨hpt, hpc, by rw [Sy.rk_val hpl, if_pos hpt, hpc]⟩
            obtain ⟨wy, rfl⟩ : ∃ wy, wy = wr := ⟨_, rfl⟩
            clear hz hpl hpt hpc hap hG hR hT hC hLn han hac
            go_wp2_with fail
            refine Calls.mono HRr.out.1 ?_
            rintro r w6 ⟨v6, rfl, hv6, hb6⟩
            obtain ⟨av, cv, rfl, _⟩ := hv6 wy (by rw [HL.out.1]; exact HRr.out.2.2)
            obtain ⟨M, hM⟩ : ∃ M, M = (Sy.steps l (p : Int)).length := ⟨_, rfl⟩
            rw [← hM]
            rw [← hM] at hv6
            have hMl : M ≤ 10000 := by have := Sy.steps_len l (p : Int); have := HL.out.2.2; omega
            have H7 : Hid _ := And.intro hv6 (And.intro (HRr.out.2.1.below hb6) hM)
            clear hv6 hb6 hM c0 c3 c4
            go_wp2_with fail
            go_loopg [61] M (fun q kv wr => ∃ (k2 : Nat) (u : Value), q = M - k2 ∧ k2 ≤ M ∧ kv = .int .i64 k2 ∧ CuAt w wr b8 (.slice (some ⟨gr, 0, none⟩) i kr) (.slice (some ⟨ga, 0, none⟩) n n) u ms i k st (Sy.upE ms l p ++ Sy.row1 ms p ((Sy.steps l p).take k2)))
            case atStart => exact ⟨0, u, rfl, Nat.zero_le _, rfl, by have h9 := H7.out.2.1; simpa [Sy.row1] using h9⟩
            case round =>
              obtain ⟨k2, u, rfl, hk, rfl, hC⟩ := hrel
              by_cases hkm : k2 < M
              · obtain ⟨⟨x1, x2⟩, hx⟩ : ∃ x, (Sy.steps l p)[k2]? = some x := ⟨(Sy.steps l p)[k2]'(by have := H7.out.2.2; omega), List.getElem?_eq_getElem _⟩
                obtain ⟨a5, rfl, d0, d1⟩ := step_at (H7.out.1 wr (by rw [HL.out.1]; exact HG.out.1.out.below hC.bl)) hx
                simp only at d0 d1
                have hxe : ((p : Int), x1, x2) ∈ es := (Sy.nf_mem es _).1 (Sy.steps_mem.1 (by rw [← HL.out.1]; exact List.mem_of_getElem? hx))
                have hxr := HR.out.2.2.2.2.2 _ hxe
                simp only at hxr
                obtain ⟨q, rfl⟩ : ∃ q : Nat, x2 = (q : Int) := ⟨x2.toNat, by omega⟩
                have hqn : q < n := by omega
                have hrs := Sy.row1_snoc (bs := ms) (p := p) hx
                obtain ⟨ga', hga', cn⟩ := own_num hC.nn (Sy.rk_at (i := q) (by have := HMs.out.1; omega))
                obtain rfl : ga = ga' := by injection hga' with e1; injection e1
                simp only at hrs
                rw [HP.out.2.2] at hrs
                obtain ⟨rq, hrq⟩ : ∃ rq, rq = Sy.rk ms (q : Int) := ⟨_, rfl⟩
                rw [← hrq] at cn hrs
                obtain ⟨ys, hys⟩ : ∃ ys, ys = Sy.upE ms l p ++ Sy.row1 ms p ((Sy.steps l p).take k2) := ⟨_, rfl⟩
                rw [← hys] at hC
                obtain ⟨au, cu, hu⟩ := row_shape hC.eo
                obtain ⟨M2, hM2⟩ : ∃ M2, M2 = ys.length := ⟨_, rfl⟩
                rw [← hM2] at hu
                subst hu
                have hM3 : M2 ≤ 100000 := by
                  have h1 := Sy.upE_len ms l p
                  have h2 := List.length_take_le k2 (Sy.steps l p)
                  have h3 := HL.out.2.2
                  rw [hM2, hys, List.length_append, Sy.row1_len]
                  omega
                obtain ⟨wb, hwb⟩ : ∃ wb, wb = wr.alloc (.cells #[.int .i64 x1, .int .i64 q] 92) := ⟨_, rfl⟩
                have hbb : Below wr.heap.size wr wb := by rw [hwb]; exact (Below.refl _ _).alloc (Nat.le_refl _) _
                have hgb : wb.heap[wr.heap.size]? = some (.cells #[.int .i64 x1, .int .i64 q] 92 (0, 0)) := by rw [hwb]; exact heap_alloc_new wr _
                have hCb := hC.below hbb
                have f0 : wb.cell? ⟨wr.heap.size, 0, none⟩ = some (.int .i64 x1) := cell0_of hgb rfl
                have f1 : wb.cell? ⟨wr.heap.size, 1, none⟩ = some (.int .i64 q) := cell0_of hgb rfl
                have cn := cell_up cn hbb
                have b3 : wb.cell? ⟨b8, 3, none⟩ = some (.slice au M2 cu) := cell0_of hCb.bx rfl
                have hOz : wb.ownsRow w.heap.size 38 3 (.slice au M2 cu) M2 (BEdges.C ys) := by have h1 := hCb.eo; unfold BEdges.Own at h1; rw [← hM2] at h1; exact h1
                have hml : M2 + 1 ≤ maxLen := by unfold maxLen; omega
                have hby : (M2 + 1) * 24 ≤ 140737488355328 := by omega
                have hle : w.heap.size ≤ (wb.drew.alloc (.cells #[.int .i64 j, .int .i64 x1, .int .i64 rq] 38)).heap.size := by have := hCb.bl.size; simp; omega
                have k0 : (0 : Int) ≤ (k2 : Int) := by omega
                have k1 : (k2 : Int) < (M : Int) := by omega
                have k3 : (0 : Int) ≤ (q : Int) := by omega
                have k4 : (q : Int) < (n : Int) := by omega
                have b3c : (wb.alloc (.cells #[.int .i64 j, .int .i64 x1, .int .i64 rq] 38)).cell? ⟨b8, 3, none⟩ = some (.slice au M2 cu) := cell_up b3 ((Below.refl _ _).alloc (Nat.le_refl _) _)
                have nb8 : ¬ b8 = wb.heap.size := by have := t_lt hCb.bx; omega
                have hSb : (fun w' => w'.cell? ⟨wr.heap.size, 0, none⟩ = some (.int .i64 x1) ∧ w'.cell? ⟨wr.heap.size, 1, none⟩ = some (.int .i64 q) ∧ w'.cell? ⟨ga, q, none⟩ = some (.int .i64 rq)) wb.drew := ⟨f0, f1, cn⟩
                have hbd : Below wb.heap.size wb (wb.drew.alloc (.cells #[.int .i64 j, .int .i64 x1, .int .i64 rq] 38)) := (Below.refl _ _).drew.alloc (by simp) _
                have HSc : Hid ((fun w' => w'.cell? ⟨wr.heap.size, 0, none⟩ = some (.int .i64 x1) ∧ w'.cell? ⟨wr.heap.size, 1, none⟩ = some (.int .i64 q) ∧ w'.cell? ⟨ga, q, none⟩ = some (.int .i64 rq)) (wb.drew.alloc (.cells #[.int .i64 j, .int .i64 x1, .int .i64 rq] 38))) := (⟨cell_up f0 hbd, cell_up f1 hbd, cell_up cn hbd⟩ : (fun w' => w'.cell? ⟨wr.heap.size, 0, none⟩ = some (.int .i64 x1) ∧ w'.cell? ⟨wr.heap.size, 1, none⟩ = some (.int .i64 q) ∧ w'.cell? ⟨ga, q, none⟩ = some (.int .i64 rq)) (wb.drew.alloc (.cells #[.int .i64 j, .int .i64 x1, .int .i64 rq] 38)))
                have HZ : Hid _ := And.intro hCb (And.intro hOz (And.intro hwb (And.intro hys (And.intro hrs (And.intro hM2 hgb)))))
                have HSb : Hid _ := hSb
                clear hC hCb hOz hwb hbb hgb hys hrs hM2 hxe hxr hrq hga' hx hSb hbd f0 f1 cn
                go_upto_region 17 with fail
                rw [← HZ.out.2.2.1]
                refine wp_region_held_drew (S := (fun w' => w'.cell? ⟨wr.heap.size, 0, none⟩ = some (.int .i64 x1) ∧ w'.cell? ⟨wr.heap.size, 1, none⟩ = some (.int .i64 q) ∧ w'.cell? ⟨ga, q, none⟩ = some (.int .i64 rq))) (by kernel_rfl) ?_ (fun hHeld => ?_)
                · exact HSb.out
                refine wpAnyH_take (i := 0) (oi := _) (v := ?_) rfl (by kernel_rfl) (by kernel_rfl) (by kernel_rfl) (fun _ _ _ h => h) (Or.inl ⟨by rfl, ?_⟩) (by assumption) ?_
                rotate_left
                · (intro w hSw; obtain ⟨v0, v1, v2⟩ := hSw; go_simp; (try with_reducible rfl))
                (try simp only [List.getElem_toArray, List.getElem_cons_succ, List.getElem_cons_zero, Act.put, List.setIfInBounds_toArray, List.set_cons_zero, List.set_cons_succ])
                refine wpAnyH_take (i := 2) (oi := _) (v := ?_) rfl (by kernel_rfl) (by kernel_rfl) (by kernel_rfl) (fun _ _ _ h => h) (Or.inl ⟨by rfl, ?_⟩) (by assumption) ?_
                rotate_left
                · (intro w hSw; obtain ⟨v0, v1, v2⟩ := hSw; go_simp; (try with_reducible rfl))
                (try simp only [List.getElem_toArray, List.getElem_cons_succ, List.getElem_cons_zero, Act.put, List.setIfInBounds_toArray, List.set_cons_zero, List.set_cons_succ])
                refine wpAnyH_take (i := 3) (oi := _) (v := ?_) rfl (by kernel_rfl) (by kernel_rfl) (by kernel_rfl) (fun _ _ _ h => h) (Or.inl ⟨by rfl, ?_⟩) (by assumption) ?_
                rotate_left
                · (intro w hSw; obtain ⟨v0, v1, v2⟩ := hSw; go_simp; (try with_reducible rfl))
                (try simp only [List.getElem_toArray, List.getElem_cons_succ, List.getElem_cons_zero, Act.put, List.setIfInBounds_toArray, List.set_cons_zero, List.set_cons_succ])
                refine wpAnyH_take (i := 4) (oi := _) (v := ?_) rfl (by kernel_rfl) (by kernel_rfl) (by kernel_rfl) (fun _ _ _ h => h) (Or.inl ⟨by rfl, ?_⟩) (by assumption) ?_
                rotate_left
                · (intro w hSw; obtain ⟨v0, v1, v2⟩ := hSw; go_simp; (try with_reducible rfl))
                (try simp only [List.getElem_toArray, List.getElem_cons_succ, List.getElem_cons_zero, Act.put, List.setIfInBounds_toArray, List.set_cons_zero, List.set_cons_succ])
                refine wpAnyH_take (i := 5) (oi := _) (v := ?_) rfl (by kernel_rfl) (by kernel_rfl) (by kernel_rfl) (fun _ _ _ h => h) (Or.inl ⟨by rfl, ?_⟩) (by assumption) ?_
                rotate_left
                · (intro w hSw; obtain ⟨v0, v1, v2⟩ := hSw; go_simp; (try with_reducible rfl))
                (try simp only [List.getElem_toArray, List.getElem_cons_succ, List.getElem_cons_zero, Act.put, List.setIfInBounds_toArray, List.set_cons_zero, List.set_cons_succ])
                refine wpAnyH_take (i := 6) (oi := _) (v := ?_) rfl (by kernel_rfl) (by kernel_rfl) (by kernel_rfl) (fun _ _ _ h => h) (Or.inl ⟨by rfl, ?_⟩) (by assumption) ?_
                rotate_left
                · (intro w hSw; obtain ⟨v0, v1, v2⟩ := hSw; go_simp; (try with_reducible rfl))
                (try simp only [List.getElem_toArray, List.getElem_cons_succ, List.getElem_cons_zero, Act.put, List.setIfInBounds_toArray, List.set_cons_zero, List.set_cons_succ])
                refine wpAnyH_take (i := 7) (oi := _) (v := ?_) rfl (by kernel_rfl) (by kernel_rfl) (by kernel_rfl) (fun _ _ _ h => h) (Or.inl ⟨by rfl, ?_⟩) (by assumption) ?_
                rotate_left
                · (intro w hSw; obtain ⟨v0, v1, v2⟩ := hSw; go_simp; (try with_reducible rfl))
                (try simp only [List.getElem_toArray, List.getElem_cons_succ, List.getElem_cons_zero, Act.put, List.setIfInBounds_toArray, List.set_cons_zero, List.set_cons_succ])
                refine wpAnyH_take (i := 8) (oi := _) (v := ?_) rfl (by kernel_rfl) (by kernel_rfl) (by kernel_rfl) (fun _ _ _ h => h) (Or.inl ⟨by rfl, ?_⟩) (by assumption) ?_
                rotate_left
                · (intro w hSw; obtain ⟨v0, v1, v2⟩ := hSw; go_simp; (try with_reducible rfl))
                (try simp only [List.getElem_toArray, List.getElem_cons_succ, List.getElem_cons_zero, Act.put, List.setIfInBounds_toArray, List.set_cons_zero, List.set_cons_succ])
                refine wpAnyH_take (i := 9) (oi := _) (v := ?_) rfl (by kernel_rfl) (by kernel_rfl) (by kernel_rfl) (fun _ _ _ h => h) (Or.inl ⟨by rfl, ?_⟩) (by assumption) ?_
                rotate_left
                · (intro w hSw; obtain ⟨v0, v1, v2⟩ := hSw; go_simp; (try with_reducible rfl))
                (try simp only [List.getElem_toArray, List.getElem_cons_succ, List.getElem_cons_zero, Act.put, List.setIfInBounds_toArray, List.set_cons_zero, List.set_cons_succ])
                refine wpAnyH_take (i := 10) (oi := _) (v := ?_) rfl (by kernel_rfl) (by kernel_rfl) (by kernel_rfl) (fun _ _ _ h => h) (Or.inl ⟨by rfl, ?_⟩) (by assumption) ?_
                rotate_left
                · (intro w hSw; obtain ⟨v0, v1, v2⟩ := hSw; go_simp; (try with_reducible rfl))
                (try simp only [List.getElem_toArray, List.getElem_cons_succ, List.getElem_cons_zero, Act.put, List.setIfInBounds_toArray, List.set_cons_zero, List.set_cons_succ])
                refine wpAnyH_ready (rs := [1, 11]) (by kernel_rfl) (by simp) ?_
                refine AllReadyH.cons (o := _) rfl (fun KK hKK => ?_) ?_
                · go_simp
                  refine hKK.out _ _ ?_ (fun hHeld => ?_)
                  · exact HSb.out
                  clear hKK KK
                  (try simp only [List.getElem_toArray, List.getElem_cons_succ, List.getElem_cons_zero, Act.put, List.setIfInBounds_toArray, List.set_cons_zero, List.set_cons_succ])
                  refine wpAnyH_ready (rs := [11]) (by kernel_rfl) (by simp) ?_
                  refine AllReadyH.cons (o := _) rfl (fun KK hKK => ?_) ?_
                  · go_simp
                    refine hKK.out _ _ ?_ (fun hHeld => ?_)
                    · exact HSc.out
                    clear hKK KK
                    (try simp only [List.getElem_toArray, List.getElem_cons_succ, List.getElem_cons_zero, Act.put, List.setIfInBounds_toArray, List.set_cons_zero, List.set_cons_succ])
                    refine wpAnyH_ready (rs := [12]) (by kernel_rfl) (by simp) ?_
                    refine AllReadyH.cons (o := _) rfl (fun KK hKK => ?_) ?_
                    · (refine step_append_lies _ (by rfl) _ _ _ (by rfl) w.heap.size 38 i0 _ 3 24 Tryz.underlying22 hi0 hz0 hz1 hz2 rfl (by decide) (.slice au M2 cu) M2 (BEdges.C ys) (by rfl) (World.ownsRow.alloc (trow_at (w' := wb.drew) HZ.out.2.1 fun _ _ => by first | rfl | simp) _) ⟨wb.heap.size, 0, none⟩ 1 1 [.int .i64 j, .int .i64 x1, .int .i64 rq] (by rfl) (by rfl) (World.news_of_block (cs := #[.int .i64 j, .int .i64 x1, .int .i64 rq]) (t := 38) (fr := (0, 0)) (heap_alloc_new wb.drew _)) (by simp [Value.oneCell']) Nat.one_pos hml hby hle (wb.heap.size + 1) (by simp) ?_; intro g4 k4' w4 hown4 hgrow4 hat4 hlt4)
                      have hk4 : Kept (fun b => (Value.slice au M2 cu).ownBlock = some b) wb w4 := (Kept.of_below ((Below.refl _ wb).drew.alloc (by simp) _)).trans (Kept.of_grown hgrow4)
                      have hbx4 := (hk4.block b8 (t_lt HZ.out.1.bx) (own_bk HZ.out.1.eo HZ.out.1.bx (by decide))).trans HZ.out.1.bx
                      have hst4 := (hk4.block wr.heap.size (t_lt HZ.out.2.2.2.2.2.2) (own_bk HZ.out.1.eo HZ.out.2.2.2.2.2.2 (by decide))).trans HZ.out.2.2.2.2.2.2
                      have cn4 : w4.cell? ⟨ga, q, none⟩ = some (.int .i64 rq) := by
                        obtain ⟨j0, j1, j3⟩ := HSb.out
                        exact (World.cell?_of_block (a := ⟨ga, q, none⟩) (hk4.block ga (World.block_lt_of_cell? wb _ (show wb.cell? ⟨ga, q, none⟩ = some (.int .i64 rq) from j3)) (fun e => own_ne HZ.out.1.eo HZ.out.1.nn (by decide) ga e rfl))).trans j3
                      have gan : ga ≠ b8 := fun e => by
                        have h1 := own_bk HZ.out.1.nn HZ.out.1.bx (by decide)
                        exact h1 (by rw [e]; rfl)
                      have wrn : wr.heap.size ≠ b8 := fun e => by
                        have h1 := hst4
                        rw [e, hbx4] at h1
                        injection h1 with h2
                        injection h2 with _ h3
                        exact absurd h3 (by decide)
                      have hS4 : (fun w' => w'.cell? ⟨wr.heap.size, 0, none⟩ = some (.int .i64 x1) ∧ w'.cell? ⟨wr.heap.size, 1, none⟩ = some (.int .i64 q) ∧ w'.cell? ⟨ga, q, none⟩ = some (.int .i64 rq)) w4 := ⟨cell0_of hst4 rfl, cell0_of hst4 rfl, cn4⟩
                      have hS5 : (fun w' => w'.cell? ⟨wr.heap.size, 0, none⟩ = some (.int .i64 x1) ∧ w'.cell? ⟨wr.heap.size, 1, none⟩ = some (.int .i64 q) ∧ w'.cell? ⟨ga, q, none⟩ = some (.int .i64 rq)) (w4.setCell ⟨b8, 3, none⟩ (.slice (some ⟨g4, 0, none⟩) (M2 + 1) k4')) := ⟨(World.cell?_of_block (a := ⟨wr.heap.size, 0, none⟩) (set_other _ _ _ _ _ wrn)).trans hS4.1, (World.cell?_of_block (a := ⟨wr.heap.size, 1, none⟩) (set_other _ _ _ _ _ wrn)).trans hS4.2.1, (World.cell?_of_block (a := ⟨ga, q, none⟩) (set_other _ _ _ _ _ gan)).trans hS4.2.2⟩
                      have bf := blk_free hbx4 3
                      have b34 := cell0_of (k := 3) hbx4 rfl
                      have hpush := HZ.out.1.push (z := ((j : Int), x1, rq)) HZ.out.2.2.2.2.2.1 hown4 hk4
                      have H4 : Hid _ := And.intro hpush hS5
                      clear hown4 hgrow4 hat4 hlt4 hk4 hbx4 hst4 hpush hS5 cn4 gan wrn
                      refine hKK.out _ _ ?_ (fun hHeld => ?_)
                      · exact hS4
                      clear hKK KK
                      (try simp only [List.getElem_toArray, List.getElem_cons_succ, List.getElem_cons_zero, Act.put, List.setIfInBounds_toArray, List.set_cons_zero, List.set_cons_succ])
                      refine wpAnyH_take (i := 13) (oi := _) (v := ?_) rfl (by kernel_rfl) (by kernel_rfl) (by kernel_rfl) (fun _ _ _ h => h) (Or.inl ⟨by rfl, ?_⟩) (by assumption) ?_
                      rotate_left
                      · (intro w hSw; obtain ⟨v0, v1, v2⟩ := hSw; go_simp; (try with_reducible rfl))
                      (try simp only [List.getElem_toArray, List.getElem_cons_succ, List.getElem_cons_zero, Act.put, List.setIfInBounds_toArray, List.set_cons_zero, List.set_cons_succ])
                      refine wpAnyH_ready (rs := [14]) (by kernel_rfl) (by simp) ?_
                      refine AllReadyH.cons (o := _) rfl (fun KK hKK => ?_) ?_
                      · go_simp
                        refine hKK.out _ _ ?_ (fun hHeld => ?_)
                        · exact H4.out.2
                        clear hKK KK
                        (try simp only [List.getElem_toArray, List.getElem_cons_succ, List.getElem_cons_zero, Act.put, List.setIfInBounds_toArray, List.set_cons_zero, List.set_cons_succ])
                        refine wpAnyH_done (by kernel_rfl) ?_ _
                        (try go_simp)
                        go_wp2_with fail
                        go_roundg (M - (k2 + 1))
                        case measure => omega
                        case rel => exact ⟨k2 + 1, _, rfl, by omega, by go_num, by rw [HZ.out.2.2.2.2.1, ← List.append_assoc, ← HZ.out.2.2.2.1]; exact H4.out.1⟩
                      exact AllReadyH.nil
                    exact AllReadyH.nil
                  exact AllReadyH.nil
                refine AllReadyH.cons (o := _) rfl (fun KK hKK => ?_) ?_
                · go_simp
                  refine hKK.out _ _ ?_ (fun hHeld => ?_)
                  · exact HSc.out
                  clear hKK KK
                  (try simp only [List.getElem_toArray, List.getElem_cons_succ, List.getElem_cons_zero, Act.put, List.setIfInBounds_toArray, List.set_cons_zero, List.set_cons_succ])
                  refine wpAnyH_ready (rs := [1]) (by kernel_rfl) (by simp) ?_
                  refine AllReadyH.cons (o := _) rfl (fun KK hKK => ?_) ?_
                  · go_simp
                    refine hKK.out _ _ ?_ (fun hHeld => ?_)
                    · exact HSc.out
                    clear hKK KK
                    (try simp only [List.getElem_toArray, List.getElem_cons_succ, List.getElem_cons_zero, Act.put, List.setIfInBounds_toArray, List.set_cons_zero, List.set_cons_succ])
                    refine wpAnyH_ready (rs := [12]) (by kernel_rfl) (by simp) ?_
                    refine AllReadyH.cons (o := _) rfl (fun KK hKK => ?_) ?_
                    · (refine step_append_lies _ (by rfl) _ _ _ (by rfl) w.heap.size 38 i0 _ 3 24 Tryz.underlying22 hi0 hz0 hz1 hz2 rfl (by decide) (.slice au M2 cu) M2 (BEdges.C ys) (by rfl) (World.ownsRow.alloc (trow_at (w' := wb.drew) HZ.out.2.1 fun _ _ => by first | rfl | simp) _) ⟨wb.heap.size, 0, none⟩ 1 1 [.int .i64 j, .int .i64 x1, .int .i64 rq] (by rfl) (by rfl) (World.news_of_block (cs := #[.int .i64 j, .int .i64 x1, .int .i64 rq]) (t := 38) (fr := (0, 0)) (heap_alloc_new wb.drew _)) (by simp [Value.oneCell']) Nat.one_pos hml hby hle (wb.heap.size + 1) (by simp) ?_; intro g4 k4' w4 hown4 hgrow4 hat4 hlt4)
                      have hk4 : Kept (fun b => (Value.slice au M2 cu).ownBlock = some b) wb w4 := (Kept.of_below ((Below.refl _ wb).drew.alloc (by simp) _)).trans (Kept.of_grown hgrow4)
                      have hbx4 := (hk4.block b8 (t_lt HZ.out.1.bx) (own_bk HZ.out.1.eo HZ.out.1.bx (by decide))).trans HZ.out.1.bx
                      have hst4 := (hk4.block wr.heap.size (t_lt HZ.out.2.2.2.2.2.2) (own_bk HZ.out.1.eo HZ.out.2.2.2.2.2.2 (by decide))).trans HZ.out.2.2.2.2.2.2
                      have cn4 : w4.cell? ⟨ga, q, none⟩ = some (.int .i64 rq) := by
                        obtain ⟨j0, j1, j3⟩ := HSb.out
                        exact (World.cell?_of_block (a := ⟨ga, q, none⟩) (hk4.block ga (World.block_lt_of_cell? wb _ (show wb.cell? ⟨ga, q, none⟩ = some (.int .i64 rq) from j3)) (fun e => own_ne HZ.out.1.eo HZ.out.1.nn (by decide) ga e rfl))).trans j3
                      have gan : ga ≠ b8 := fun e => by
                        have h1 := own_bk HZ.out.1.nn HZ.out.1.bx (by decide)
                        exact h1 (by rw [e]; rfl)
                      have wrn : wr.heap.size ≠ b8 := fun e => by
                        have h1 := hst4
                        rw [e, hbx4] at h1
                        injection h1 with h2
                        injection h2 with _ h3
                        exact absurd h3 (by decide)
                      have hS4 : (fun w' => w'.cell? ⟨wr.heap.size, 0, none⟩ = some (.int .i64 x1) ∧ w'.cell? ⟨wr.heap.size, 1, none⟩ = some (.int .i64 q) ∧ w'.cell? ⟨ga, q, none⟩ = some (.int .i64 rq)) w4 := ⟨cell0_of hst4 rfl, cell0_of hst4 rfl, cn4⟩
                      have hS5 : (fun w' => w'.cell? ⟨wr.heap.size, 0, none⟩ = some (.int .i64 x1) ∧ w'.cell? ⟨wr.heap.size, 1, none⟩ = some (.int .i64 q) ∧ w'.cell? ⟨ga, q, none⟩ = some (.int .i64 rq)) (w4.setCell ⟨b8, 3, none⟩ (.slice (some ⟨g4, 0, none⟩) (M2 + 1) k4')) := ⟨(World.cell?_of_block (a := ⟨wr.heap.size, 0, none⟩) (set_other _ _ _ _ _ wrn)).trans hS4.1, (World.cell?_of_block (a := ⟨wr.heap.size, 1, none⟩) (set_other _ _ _ _ _ wrn)).trans hS4.2.1, (World.cell?_of_block (a := ⟨ga, q, none⟩) (set_other _ _ _ _ _ gan)).trans hS4.2.2⟩
                      have bf := blk_free hbx4 3
                      have b34 := cell0_of (k := 3) hbx4 rfl
                      have hpush := HZ.out.1.push (z := ((j : Int), x1, rq)) HZ.out.2.2.2.2.2.1 hown4 hk4
                      have H4 : Hid _ := And.intro hpush hS5
                      clear hown4 hgrow4 hat4 hlt4 hk4 hbx4 hst4 hpush hS5 cn4 gan wrn
                      refine hKK.out _ _ ?_ (fun hHeld => ?_)
                      · exact hS4
                      clear hKK KK
                      (try simp only [List.getElem_toArray, List.getElem_cons_succ, List.getElem_cons_zero, Act.put, List.setIfInBounds_toArray, List.set_cons_zero, List.set_cons_succ])
                      refine wpAnyH_take (i := 13) (oi := _) (v := ?_) rfl (by kernel_rfl) (by kernel_rfl) (by kernel_rfl) (fun _ _ _ h => h) (Or.inl ⟨by rfl, ?_⟩) (by assumption) ?_
                      rotate_left
                      · (intro w hSw; obtain ⟨v0, v1, v2⟩ := hSw; go_simp; (try with_reducible rfl))
                      (try simp only [List.getElem_toArray, List.getElem_cons_succ, List.getElem_cons_zero, Act.put, List.setIfInBounds_toArray, List.set_cons_zero, List.set_cons_succ])
                      refine wpAnyH_ready (rs := [14]) (by kernel_rfl) (by simp) ?_
                      refine AllReadyH.cons (o := _) rfl (fun KK hKK => ?_) ?_
                      · go_simp
                        refine hKK.out _ _ ?_ (fun hHeld => ?_)
                        · exact H4.out.2
                        clear hKK KK
                        (try simp only [List.getElem_toArray, List.getElem_cons_succ, List.getElem_cons_zero, Act.put, List.setIfInBounds_toArray, List.set_cons_zero, List.set_cons_succ])
                        refine wpAnyH_done (by kernel_rfl) ?_ _
                        (try go_simp)
                        go_wp2_with fail
                        go_roundg (M - (k2 + 1))
                        case measure => omega
                        case rel => exact ⟨k2 + 1, _, rfl, by omega, by go_num, by rw [HZ.out.2.2.2.2.1, ← List.append_assoc, ← HZ.out.2.2.2.1]; exact H4.out.1⟩
                      exact AllReadyH.nil
                    exact AllReadyH.nil
                  exact AllReadyH.nil
                exact AllReadyH.nil
              · obtain rfl : k2 = M := by omega
                have k1 : ¬ (k2 : Int) < (k2 : Int) := by omega
                have ht : (Sy.steps l p).take k2 = Sy.steps l p := List.take_of_length_le (by have := H7.out.2.2; omega)
                rw [ht] at hC
                have hup : Sy.upE ms l (p + 1) = Sy.upE ms l p ++ Sy.row1 ms p (Sy.steps l p) := by rw [Sy.upE_step HL.out.2.1 p, if_pos HP.out.1]
                rw [← hup] at hC
                have H8 : Hid _ := hC
                clear hC ht hup
                go_wp2_with fail
                go_roundg (i - (j + 1))
                case measure => omega
                case rel => exact ⟨j + 1, p + 1, _, rfl, by omega, by go_num, H8.out, by omega, by rw [Sy.count_step HP.out.1, HP.out.2.1]⟩
          · obtain rfl : j = i := by omega
            have p1 : ¬ (j : Int) < (j : Int) := by omega
            have hfull : Sy.upE ms l a = Sy.cutE ms (Sy.nf es) := by
              have h1 := HMs.out.1
              rw [Sy.upE_skip HL.out.2.1 n han (by omega) (by rw [hac, HMs.out.2.2.1, ← h1, List.take_length])]
              unfold Sy.upE
              rw [HL.out.1, Sy.take_all HG.out.1.right]
            rw [hfull] at hC
            obtain ⟨au, cu, hu⟩ := row_shape hC.eo
            obtain ⟨M2, hM2⟩ : ∃ M2, M2 = (Sy.cutE ms (Sy.nf es)).length := ⟨_, rfl⟩
            rw [← hM2] at hu
            subst hu
            have y0 := cell0_of (k := 0) hC.bx rfl
            have y1 := cell0_of (k := 1) hC.bx rfl
            have y2 := cell0_of (k := 2) hC.bx rfl
            have y3 := cell0_of (k := 3) hC.bx rfl
            have r0 := cell0_of (k := 0) hC.rs rfl
            have r1 := cell0_of (k := 1) hC.rs rfl
            have r2 := cell0_of (k := 2) hC.rs rfl
            have r3 := cell0_of (k := 3) hC.rs rfl
            have f0 := blk_free hC.rs 0
            have f1 := blk_free hC.rs 1
            have f2 := blk_free hC.rs 2
            have f3 := blk_free hC.rs 3
            have H8 : Hid _ := hC
            have nn1 : ¬ b8 = w.heap.size := by have := hC.hb; omega
            have nn2 : ¬ w.heap.size = b8 := by have := hC.hb; omega
            clear hC hfull hM2 han hac
            go_wp2_with fail
            refine bodyPost_ret (v := .tuple #[.agg #[.int .i64 j, .int .i64 k, .int .i64 st, .slice au M2 cu], .slice (some ⟨ga, 0, none⟩) n n]) (by simp [results, Tryz.results32, go_sem, *]) rfl ?_
            have h := H8.out
            have kS : Kept (fun b => b = w.heap.size) wr ((((wr.setCell ⟨w.heap.size, 0, none⟩ (.int .i64 j)).setCell ⟨w.heap.size, 1, none⟩ (.int .i64 k)).setCell ⟨w.heap.size, 2, none⟩ (.int .i64 st)).setCell ⟨w.heap.size, 3, none⟩ (.slice au M2 cu)) := (((Kept.setCell _ _ _ _).trans (Kept.setCell _ _ _ _)).trans (Kept.setCell _ _ _ _)).trans (Kept.setCell _ _ _ _)
            refine ⟨ms, .slice au M2 cu, .slice (some ⟨ga, 0, none⟩) n n, ?_, HMs.out.1, HMs.out.2.1, own_up h.eo kS (fun b e q => own_bk h.eo h.rs (by decide) (q ▸ e)), own_up h.nn kS (fun b e q => own_bk h.nn h.rs (by decide) (q ▸ e)), (((h.bl.setCell (Nat.le_refl _) _).setCell (Nat.le_refl _) _).setCell (Nat.le_refl _) _).setCell (Nat.le_refl _) _⟩
            unfold sysV
            rw [← HMs.out.2.2.1, ← Hst.out]
end Go.Proofs.YtgnfommndoodmaaGreatDoor
/- The book's SameInts on equal lists. -/
namespace Go.Proofs.YtgnfommndoodmaaGreatDoor
open Go.RowKit
set_option maxRecDepth 100000 in
set_option maxHeartbeats 1000000 in
theorem sameInts_any (va vb : Value) (zs : List Int) (w : World) (hn : zs.length ≤ 1000000) (hA : HasI w va zs) (hB : HasI w vb zs) :
    Calls Tryz.prog 19 #[va, vb] w fun e w' => e = .returned (.bool true) ∧ Below w.heap.size w w' := by
  obtain ⟨ao, cap, rfl, hcA⟩ := hA
  obtain ⟨ao', cap', rfl, hcB⟩ := hB
  obtain ⟨n, hN⟩ : ∃ n, n = zs.length := ⟨_, rfl⟩
  have HH : Hid ((∀ (i : Nat) (z : Int), zs[i]? = some z → ∃ a, ao = some a ∧ w.cell? (a.add i) = some (.int .i64 z)) ∧ (∀ (i : Nat) (z : Int), zs[i]? = some z → ∃ a, ao' = some a ∧ w.cell? (a.add i) = some (.int .i64 z)) ∧ n = zs.length) := ⟨hcA, hcB, hN⟩
  rw [← hN] at hn ⊢
  clear hcA hcB hN
  have q : ((n : Int) != (n : Int)) = false := by simp
  go_enter Tryz.func19, Tryz.ntmps19
  go_wp2
  go_loopg [5] n (fun g i wr => ∃ j m : Nat, g = n - j ∧ j ≤ n ∧ i = .int .i64 j ∧ wr = w.drewN m)
  case atStart => exact ⟨0, 0, rfl, Nat.zero_le _, rfl, rfl⟩
  case round =>
    obtain ⟨j, m, rfl, hj, rfl, rfl⟩ := hrel
    by_cases hlt : j < n
    · obtain ⟨z, hz⟩ : ∃ z, zs[j]? = some z := ⟨zs[j]'(by have := HH.out.2.2; omega), List.getElem?_eq_getElem _⟩
      obtain ⟨a, rfl, c0⟩ := HH.out.1 j z hz
      obtain ⟨b, rfl, d0⟩ := HH.out.2.1 j z hz
      clear hz
      have q0 : (0 : Int) ≤ (j : Int) := by omega
      have q1 : (j : Int) < (n : Int) := by omega
      go_wp2_with fail
      go_quiet (fail)
      go_wp2
      go_roundg (n - (j + 1))
      case measure => omega
      case rel => exact ⟨j + 1, _, rfl, by omega, by go_num, by first | rfl | exact World.drewN_drewN _ _ _⟩
    · have q1 : ¬ (j : Int) < (n : Int) := by omega
      go_wp2
      go_ret
      exact ⟨rfl, below_drewN (Below.refl _ _) _⟩
end Go.Proofs.YtgnfommndoodmaaGreatDoor
/- GraphPlays: what stands while the rest of the statement runs. -/
namespace Go.Proofs.YtgnfommndoodmaaGreatDoor
open Go.RowKit Go.Maps
/-- A list of rows of steps in memory, as far as it is read. -/
structure RowsAt (W : World) (o : Nat) (us : List Value) (n : Nat) (f : Nat → List BSteps.El) : Prop where
  cell : ∀ i x, us[i]? = some x → W.cell? ⟨o, i, none⟩ = some x
  row : ∀ i, i < n → ∃ a c, us[i]? = some (.slice a (f i).length c) ∧ BSteps.Has W (.slice a (f i).length c) (f i)
theorem RowsAt.below {W W' : World} {o : Nat} {us : List Value} {n : Nat} {f : Nat → List BSteps.El} (h : RowsAt W o us n f) (hb : Below W.heap.size W W') : RowsAt W' o us n f :=
  ⟨fun i x hx => cell_up (h.cell i x hx) hb, fun i hi => by obtain ⟨a, c, h1, h2⟩ := h.row i hi; exact ⟨a, c, h1, h2.below hb⟩⟩
theorem RowsAt.of {w W : World} {B o : Nat} {us : List Value} {n : Nat} {f : Nat → List BSteps.El} (hA : Arr 41 w W o us) (hO : Outs W B us n f) : RowsAt W o us n f :=
  ⟨fun i x hx => hA.cell hx, fun i hi => by
    obtain ⟨u, hu, hOu⟩ := hO.row i hi
    obtain ⟨a, c, rfl⟩ := row_shape hOu
    exact ⟨a, c, hu, hOu.has⟩⟩
structure PlT (w W : World) (B g bs bb cs cb m : Nat) (k s : Int) (es : List Sy.Ed) (ao : Option Addr) (L cap ta : Nat) (aa : Option Addr) (P ca o1 o2 : Nat) (us1 us2 : List Value) : Prop where
  b : Below w.heap.size w W
  gr : Gr W B g bs bb cs cb m k s es
  sb : W.heap[w.heap.size]? = some (.cells #[.int .i64 m, .int .i64 k, .int .i64 s, .slice ao L cap] 24 (0, 0))
  tb : W.heap[ta]? = some (.cells #[.int .i64 m, .int .i64 k, .int .i64 s, .slice aa P ca] 24 (0, 0))
  te : BEdges.Has W (.slice aa P ca) (Sy.nf es)
  ro : RowsAt W o1 us1 m fun i => Sy.steps (Sy.nf es) i
  ri : RowsAt W o2 us2 m fun i => Sy.steps (Sy.nf (es.map Sy.turn)) i
theorem PlT.below {w W W' : World} {B g bs bb cs cb m : Nat} {k s : Int} {es : List Sy.Ed} {ao : Option Addr} {L cap ta : Nat} {aa : Option Addr} {P ca o1 o2 : Nat} {us1 us2 : List Value} (h : PlT w W B g bs bb cs cb m k s es ao L cap ta aa P ca o1 o2 us1 us2) (hb : Below W.heap.size W W') : PlT w W' B g bs bb cs cb m k s es ao L cap ta aa P ca o1 o2 us1 us2 :=
  ⟨bel5 hb h.b, h.gr.below hb, res_up5 hb h.sb, res_up5 hb h.tb, h.te.below hb, h.ro.below hb, h.ri.below hb⟩
theorem deg_succ (l : List Sy.Ed) (i : Nat) : Sy.degTo l (i + 1) = max (Sy.degTo l i) (Sy.steps l (i : Int)).length := rfl
theorem rowOf_own {w : World} {B : Nat} {u : Value} {xs ys : List BSteps.El} (e : xs = ys) (h : BSteps.Own w B u xs) : BSteps.Has w u ys := by rw [← e]; exact h.has
theorem has_shape {w : World} {u : Value} {xs : List BSteps.El} (h : BSteps.Has w u xs) : ∃ a k, u = .slice a xs.length k := by obtain ⟨a, k, rfl, _⟩ := h; exact ⟨a, k, rfl⟩
theorem hasE_shape {w : World} {u : Value} {xs : List Sy.Ed} (h : BEdges.Has w u xs) : ∃ a k, u = .slice a xs.length k := by obtain ⟨a, k, rfl, _⟩ := h; exact ⟨a, k, rfl⟩
theorem hasI_shape {w : World} {u : Value} {xs : List Int} (h : HasI w u xs) : ∃ a k, u = .slice a xs.length k := by obtain ⟨a, k, rfl, _⟩ := h; exact ⟨a, k, rfl⟩
theorem hasI_nil0 (w : World) (b : Int) : HasI w (.slice none 0 0) (Sy.ends [] b) := ⟨none, 0, rfl, fun i z h => by simp [Sy.ends] at h⟩
theorem Sy.rowOf_turn {n i : Nat} (es : List Sy.Ed) (h : i < n) : Sy.rowOf n (Sy.nf ((Sy.nf es).map Sy.turn)) (i : Int) = Sy.steps (Sy.nf (es.map Sy.turn)) i := by rw [Sy.rowOf_at _ h, ← Sy.nf_turn]
theorem turn_len (es : List Sy.Ed) : (Sy.nf (es.map Sy.turn)).length = (Sy.nf es).length := by rw [Sy.nf_turn, nf_turn_len]
section
variable {w : World} {B g bs bb cs cb n : Nat} {k s : Int} {es : List Sy.Ed}
theorem steps_big1 (h : Gr w B g bs bb cs cb n k s es) (i : Int) : (Sy.steps (Sy.nf es) i).length ≤ 100000 := by have := h.sizes; have := Sy.steps_len (Sy.nf es) i; omega
theorem steps_big2 (h : Gr w B g bs bb cs cb n k s es) (i : Int) : (Sy.steps (Sy.nf (es.map Sy.turn)) i).length ≤ 100000 := by have := h.sizes; have := Sy.steps_len (Sy.nf (es.map Sy.turn)) i; have := turn_len es; omega
theorem steps_big (h : Gr w B g bs bb cs cb n k s es) (i : Int) : (Sy.steps (Sy.nf es) i).length ≤ 1000000000000000 := by have := steps_big1 h i; omega
theorem steps_bigIn (h : Gr w B g bs bb cs cb n k s es) (i : Int) : (Sy.steps (Sy.nf (es.map Sy.turn)) i).length ≤ 1000000000000000 := by have := steps_big2 h i; omega
theorem row_bigS (h : Gr w B g bs bb cs cb n k s es) (i : Int) : (Sy.rowOf n (Sy.nf es) i).length ≤ 1000000000000000 := by have := h.sizes; have := rowOf_len n (Sy.nf es) i; omega
theorem row_bigS2 (h : Gr w B g bs bb cs cb n k s es) (i : Int) : (Sy.rowOf n (Sy.nf ((Sy.nf es).map Sy.turn)) i).length ≤ 1000000000000000 := by have := h.sizes; have := rowOf_len n (Sy.nf ((Sy.nf es).map Sy.turn)) i; have := nf_turn_len es; omega
theorem row_bigI (h : Gr w B g bs bb cs cb n k s es) (i b : Int) : (Sy.ends (Sy.rowOf n (Sy.nf es) i) b).length ≤ 1000000 := by have := h.sizes; have := rowOf_len n (Sy.nf es) i; have := Sy.ends_len (Sy.rowOf n (Sy.nf es) i) b; omega
theorem row_bigI2 (h : Gr w B g bs bb cs cb n k s es) (i b : Int) : (Sy.ends (Sy.rowOf n (Sy.nf ((Sy.nf es).map Sy.turn)) i) b).length ≤ 1000000 := by have := h.sizes; have := rowOf_len n (Sy.nf ((Sy.nf es).map Sy.turn)) i; have := nf_turn_len es; have := Sy.ends_len (Sy.rowOf n (Sy.nf ((Sy.nf es).map Sy.turn)) i) b; omega
theorem nf_big (h : Gr w B g bs bb cs cb n k s es) : (Sy.nf es).length ≤ 1000000000000000 := by have := h.sizes; omega
theorem marks_big {rs : List Bool} (hl : rs.length = n) (h : Gr w B g bs bb cs cb n k s es) : (Sy.marked rs).length ≤ 1000000 := by have := h.sizes; have h1 := Sy.marked_len rs; have h2 := List.count_le_length (a := true) (l := rs); omega
end
theorem marks_same {rs ms : List Bool} {n : Nat} {p : Nat → Prop} (h1 : rs.length = n) (h2 : ms.length = n) (h3 : ∀ q : Nat, q < n → (rs[q]? = some true ↔ p q)) (h4 : ∀ q : Nat, q < n → (ms[q]? = some true ↔ p q)) : Sy.marked ms = Sy.marked rs := by
  have e : ms = rs := by
    apply List.ext_getElem (by omega)
    intro q hq hq'
    have a := (h3 q (by omega)).trans (h4 q (by omega)).symm
    rw [List.getElem?_eq_getElem hq, List.getElem?_eq_getElem hq'] at a
    cases x : ms[q] <;> cases y : rs[q] <;> simp_all
  rw [e]
theorem refReach_of {w W : World} {B g bs bb cs cb m : Nat} {k s : Int} {es : List Sy.Ed} {ao : Option Addr} {L cap ta : Nat} {aa : Option Addr} {P ca o1 o2 : Nat} {us1 us2 : List Value} (h : PlT w W B g bs bb cs cb m k s es ao L cap ta aa P ca o1 o2 us1 us2) (hv : HasE w (.slice ao L cap) es) (hL : L = es.length) (hr : Sy.right m k s es = true) :
    Calls Tryz.prog 18 #[sysV m k s (.slice ao L cap)] W fun e w' => ∃ g bs, e = .returned (.slice (some ⟨g, 0, none⟩) m m) ∧ Arr 4 W w' g (bC bs) ∧ bs.length = m ∧ ∀ p : Nat, p < m → (bs[p]? = some true ↔ Sy.Rea es s p) := by
  have hp := right_parts hr
  exact refReach_any m k s _ es W (by omega) (hv.below h.b) (by omega) (fun e he => by have := hp.2.2.2.2.2 e he; omega) (fun h0 => hp.2.2.2.2.1 (by omega))
end Go.Proofs.YtgnfommndoodmaaGreatDoor
