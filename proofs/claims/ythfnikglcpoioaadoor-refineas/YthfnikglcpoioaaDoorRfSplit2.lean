/- refine: Split where there are marked and other elements. -/
import Derived.Test.YthfnikglcpoioaaDoorRfSplit
namespace Go.Proofs.YthfnikglcpoioaaDoor
open Go.RowKit Go.Maps
attribute [local go_sem ↓] Go.wp_at_zero Go.wp_at_succ
/-- The two bounds that Split makes, in memory beside the partition. -/
structure SpM (w0 w wx : World) (g : Nat) (c : Nat → Int) (st fr sB sD fB fD : Nat) : Prop where
  pt : Pt w0 wx g c
  kp : Kept (fun i => i = g) w wx
  cs : wx.heap[st]? = some (.cells #[.int .i64 sB, .int .i64 sB, .int .i64 sD] 55 (0, 0))
  cf : wx.heap[fr]? = some (.cells #[.int .i64 fB, .int .i64 fB, .int .i64 fD] 55 (0, 0))
theorem SpM.below {w0 w wx wy : World} {g : Nat} {c : Nat → Int} {st fr sB sD fB fD : Nat} (h : SpM w0 w wx g c st fr sB sD fB fD) (hb : Below wx.heap.size wx wy) : SpM w0 w wy g c st fr sB sD fB fD :=
  ⟨h.pt.below hb, h.kp.trans (Kept.of_below hb), (hb.block _ (t_lt h.cs)).trans h.cs, (hb.block _ (t_lt h.cf)).trans h.cf⟩
theorem blk_set3 {w : World} {b : Nat} {x0 x1 x2 : Value} {t : TypeId} (h : w.heap[b]? = some (.cells #[x0, x1, x2] t (0, 0))) (y0 y1 y2 : Value) : (((w.setCell ⟨b, 0, none⟩ y0).setCell ⟨b, 1, none⟩ y1).setCell ⟨b, 2, none⟩ y2).heap[b]? = some (.cells #[y0, y1, y2] t (0, 0)) := by
  have h0 := heap_setCell_same w b 0 _ _ y0 h
  have h1 := heap_setCell_same _ b 1 _ _ y1 h0
  exact heap_setCell_same _ b 2 _ _ y2 h1
theorem kept_set3 (w : World) (b : Nat) (y0 y1 y2 : Value) : Kept (fun i => i = b) w (((w.setCell ⟨b, 0, none⟩ y0).setCell ⟨b, 1, none⟩ y1).setCell ⟨b, 2, none⟩ y2) := ((Kept.setCell _ _ _ _).trans (Kept.setCell _ _ _ _)).trans (Kept.setCell _ _ _ _)
theorem SpM.swap {w0 w wx : World} {g : Nat} {c : Nat → Int} {st sB sD fB fD : Nat} (h : SpM w0 w wx g c st (st + 1) sB sD fB fD) (hw : w.heap.size < st) (hg : g < w.heap.size) (h0 : w0.heap.size ≤ w.heap.size) : SpM w0 w ((((((wx.setCell ⟨st, 0, none⟩ (.int .i64 fB)).setCell ⟨st, 1, none⟩ (.int .i64 fB)).setCell ⟨st, 2, none⟩ (.int .i64 fD)).setCell ⟨st + 1, 0, none⟩ (.int .i64 sB)).setCell ⟨st + 1, 1, none⟩ (.int .i64 sB)).setCell ⟨st + 1, 2, none⟩ (.int .i64 sD)) g c st (st + 1) fB fD sB sD := by
  have k1 := kept_set3 wx st (.int .i64 fB) (.int .i64 fB) (.int .i64 fD)
  have b1 := blk_set3 h.cs (.int .i64 fB) (.int .i64 fB) (.int .i64 fD)
  have b2 := (k1.block _ (t_lt h.cf) (by omega)).trans h.cf
  generalize ((wx.setCell ⟨st, 0, none⟩ (.int .i64 fB)).setCell ⟨st, 1, none⟩ (.int .i64 fB)).setCell ⟨st, 2, none⟩ (.int .i64 fD) = w1 at k1 b1 b2 ⊢
  have k2 := kept_set3 w1 (st + 1) (.int .i64 sB) (.int .i64 sB) (.int .i64 sD)
  have b3 := blk_set3 b2 (.int .i64 sB) (.int .i64 sB) (.int .i64 sD)
  have b4 := (k2.block _ (t_lt b1) (by omega)).trans b1
  refine ⟨(h.pt.kept k1 fun b hb => ⟨by omega, by omega⟩).kept k2 fun b hb => ⟨by omega, by omega⟩, (h.kp.trans2 k1 fun i hi => Or.inr (by omega)).trans2 k2 fun i hi => Or.inr (by omega), b4, b3⟩
theorem SpM.set {w0 w wx : World} {g : Nat} {c : Nat → Int} {st sB sD fB fD : Nat} (h : SpM w0 w wx g c st (st + 1) sB sD fB fD) (hg : g < st) (i : Nat) (x : Int) : SpM w0 w (wx.setCell ⟨g, i, none⟩ (.int .i64 x)) g (upd c i x) st (st + 1) sB sD fB fD :=
  have k := Kept.setCell wx g i (.int .i64 x)
  ⟨h.pt.set i x, h.kp.trans k, (k.block _ (t_lt h.cs) (by omega)).trans h.cs, (k.block _ (t_lt h.cf) (by omega)).trans h.cf⟩
theorem rgb3 {w wr : World} {P : Prop} (h : P ∧ Hid (Below w.heap.size w wr)) : Below w.heap.size w wr := h.2.out
theorem rg_up3 {w2 wa wb : World} {a0 a1 a2 : Addr} {x0 x1 x2 : Value} (hb : Below wa.heap.size wa wb) (h : (wa.cell? a0 = some x0 ∧ wa.cell? a1 = some x1 ∧ wa.cell? a2 = some x2) ∧ Hid (Below w2.heap.size w2 wa)) : (wb.cell? a0 = some x0 ∧ wb.cell? a1 = some x1 ∧ wb.cell? a2 = some x2) ∧ Hid (Below w2.heap.size w2 wb) :=
  ⟨⟨cellu h.1.1 hb, cellu h.1.2.1 hb, cellu h.1.2.2 hb⟩, (h.2.out.trans (hb.mono h.2.out.size) : Below w2.heap.size w2 wb)⟩
set_option maxRecDepth 100000 in
set_option maxHeartbeats 8000000 in
theorem split_some (g : Nat) (c : Nat → Int) (s : Pst) (b : Nat) (w0 w : World) (hP : Pt w0 w g c) (hL : Lay c s) (hO : s.Ok) (hb : b < s.nb) (hm : s.B b < s.R b) (ho : s.R b < s.D b) (sB sD fB fD : Nat)
    (hx : (s.D b - s.R b < s.R b - s.B b ∧ sB = s.B b ∧ sD = s.R b ∧ fB = s.R b ∧ fD = s.D b) ∨ (¬ s.D b - s.R b < s.R b - s.B b ∧ sB = s.R b ∧ sD = s.D b ∧ fB = s.B b ∧ fD = s.R b)) :
    Calls Tryd.prog 11 #[.pointer (some ⟨g, 0, none⟩), .int .i64 b] w fun r w' => r = .returned (.tuple #[.int .i64 s.nb, .bool true, .nilIface]) ∧ ∃ c', Pt w0 w' g c' ∧ Lay c' (s.cut b sB sD fB fD (fD - fB)) ∧ Kept (fun i => i = g) w w' := by
  obtain ⟨v1, v2, v3, v4⟩ := hO.iv b hb
  have hn := hO.n1
  have hf := hO.few2 hb (by omega)
  have hS := blocks_any g c w0 w hP
  rw [hL.nb] at hS
  have hl := lacks_ok g b s.nb w (by omega) (by omega)
  have c0 := hP.cell (i := 3002 + b * 3) (by omega)
  rw [hL.b b hb] at c0
  have c1 := hP.cell (i := 3002 + b * 3 + 1) (by omega)
  rw [hL.r b hb] at c1
  have c2 := hP.cell (i := 3002 + b * 3 + 2) (by omega)
  rw [hL.d b hb] at c2
  have e0 : (0 : Int) ≤ (b : Int) := by omega
  have e1 : (b : Int) < 1000 := by omega
  have hM := fun W => marks_any (s.B b) (s.R b) (s.D b) v1 (by omega) W
  have hT := fun W => others_any (s.B b) (s.R b) (s.D b) v2 (by omega) W
  have l0 : b < 1000 := by omega
  have HL : Hid (Lay c s ∧ s.Ok ∧ s.n ≤ 1000 ∧ s.nb + 1 ≤ s.n) := ⟨hL, hO, hn, hf⟩
  have l1 : s.nb < 1000 := by omega
  have l2 : b < s.nb := hb
  have hfD : fB < fD ∧ fD ≤ s.n := by omega
  obtain ⟨B, hB⟩ : ∃ B, B = s.B b := ⟨_, rfl⟩
  obtain ⟨R, hR⟩ : ∃ R, R = s.R b := ⟨_, rfl⟩
  obtain ⟨D, hD⟩ : ∃ D, D = s.D b := ⟨_, rfl⟩
  rw [← hB] at c0 hM hT v1 v3 hm hx
  rw [← hR] at c1 hM hT v1 v2 hm ho hx
  rw [← hD] at c2 hM hT v2 v3 v4 ho hx
  obtain ⟨nb, hnb⟩ : ∃ nb, nb = s.nb := ⟨_, rfl⟩
  rw [← hnb] at hS hl l1 l2 ⊢
  have HN : Hid (nb = s.nb) := hnb
  clear hB hR hD hnb
  have hgl := Arr.lt hP
  have hb1 : Below w.heap.size w (w.alloc (.cells #[.int .i64 B, .int .i64 R, .int .i64 D] 55)) := (Below.refl _ _).alloc (Nat.le_refl _) _
  have hn1 : (w.alloc (.cells #[.int .i64 B, .int .i64 R, .int .i64 D] 55)).heap[w.heap.size]? = some (.cells #[.int .i64 B, .int .i64 R, .int .i64 D] 55 (0, 0)) := heap_alloc_new _ _
  have H : Hid _ := And.intro hS (And.intro hl (And.intro hM (And.intro hT (And.intro hP (And.intro hb1 hn1)))))
  have m0 : ¬ ((R - B : Nat) : Int) = 0 := by omega
  have m1 : ¬ R - B = 0 := by omega
  have o0 : ¬ ((D - R : Nat) : Int) = 0 := by omega
  have o1 : ¬ D - R = 0 := by omega
  have m2 : decide (((R - B : Nat) : Int) = 0) = false := decide_eq_false m0
  have o2 : decide (((D - R : Nat) : Int) = 0) = false := decide_eq_false o0
  have m3 : (((R - B : Nat) : Int) == 0) = false := by simpa using m0
  have o3 : (((D - R : Nat) : Int) == 0) = false := by simpa using o0
  have HX : Hid ((D - R < R - B ∧ sB = B ∧ sD = R ∧ fB = R ∧ fD = D) ∨ (¬ D - R < R - B ∧ sB = R ∧ sD = D ∧ fB = B ∧ fD = R)) := hx
  have HF : Hid (fB < fD ∧ fD ≤ s.n) := hfD
  clear hS hl hP hL hO hn hf hM hT hb1 hn1 hb hm ho v1 v2 v3 v4 hx hfD
  go_enter Tryd.func11, Tryd.ntmps11
  go_upto_region 10 with (first
    | (go_at_call 13; refine Calls.mono H.out.1 ?_; rintro r w1 ⟨rfl, hw1⟩; obtain rfl := hw1.symm; clear hw1)
    | (go_at_call 19; refine Calls.mono H.out.2.1 ?_; rintro r w1 ⟨rfl, hw1⟩; obtain rfl := hw1.symm; clear hw1)
    | (go_at_call 25; refine Calls.mono (H.out.2.2.1 _) ?_; rintro r w1 ⟨rfl, hb1⟩; have y0 := cellu (cell0_of (k := 0) H.out.2.2.2.2.2.2 rfl) hb1; have y1 := cellu (cell0_of (k := 1) H.out.2.2.2.2.2.2 rfl) hb1; have y2 := cellu (cell0_of (k := 2) H.out.2.2.2.2.2.2 rfl) hb1)
    | (go_at_call 26; refine Calls.mono (H.out.2.2.2.1 _) ?_; rintro r w2 ⟨rfl, hb2'⟩; have hb2 := hb1.trans (hb2'.mono hb1.size); clear y0 y1 y2 hb2' hb1; have hbl := (hb2.block _ (t_lt H.out.2.2.2.2.2.2)).trans H.out.2.2.2.2.2.2; have y0 := cell0_of (k := 0) hbl rfl; have y1 := cell0_of (k := 1) hbl rfl; have y2 := cell0_of (k := 2) hbl rfl; have HW : Hid (Pt w0 w2 g c ∧ Below w.heap.size w w2 ∧ w2.heap[w.heap.size]? = some (.cells #[.int .i64 B, .int .i64 R, .int .i64 D] 55 (0, 0))) := ⟨(H.out.2.2.2.2.1.below H.out.2.2.2.2.2.1).below hb2, H.out.2.2.2.2.2.1.trans (hb2.mono H.out.2.2.2.2.2.1.size), hbl⟩; have hbA : Below w2.heap.size w2 (w2.alloc (.cells #[.int .i64 R, .int .i64 R, .int .i64 D] 55)) := (Below.refl _ _).alloc (Nat.le_refl _) _; have z0 := cellu y0 hbA; have z1 := cellu y1 hbA; clear hbA hb2 hbl c0 c1 c2))
  obtain ⟨w4, hw4⟩ : ∃ w4, w4 = (w2.alloc (.cells #[.int .i64 R, .int .i64 R, .int .i64 D] 55)).alloc (.cells #[.int .i64 B, .int .i64 B, .int .i64 R] 55) := ⟨_, rfl⟩
  rw [← hw4]
  have hbA : Below w2.heap.size w2 (w2.alloc (.cells #[.int .i64 R, .int .i64 R, .int .i64 D] 55)) := (Below.refl _ _).alloc (Nat.le_refl _) _
  have hbB : Below w2.heap.size w2 w4 := by rw [hw4]; exact hbA.alloc hbA.size _
  have hs4 : w4.heap[w2.heap.size]? = some (.cells #[.int .i64 R, .int .i64 R, .int .i64 D] 55 (0, 0)) := by
    rw [hw4]
    exact ((MapKept.heap_alloc _ _).2 _ (by simp)).trans (MapKept.heap_alloc w2 _).1
  have hf4 : w4.heap[w2.heap.size + 1]? = some (.cells #[.int .i64 B, .int .i64 B, .int .i64 R] 55 (0, 0)) := by rw [hw4]; exact two_alloc w2 _ _
  have hsz : w.heap.size < w2.heap.size := t_lt HW.out.2.2
  have u0 := cellu y0 hbB
  have u1 := cellu y1 hbB
  have u2 := cellu y2 hbB
  have HS : Hid (Pt w0 w4 g c ∧ Below w.heap.size w w4 ∧ w4.heap[w2.heap.size]? = some (.cells #[.int .i64 R, .int .i64 R, .int .i64 D] 55 (0, 0)) ∧ w4.heap[w2.heap.size + 1]? = some (.cells #[.int .i64 B, .int .i64 B, .int .i64 R] 55 (0, 0))) := ⟨HW.out.1.below hbB, HW.out.2.1.trans (hbB.mono HW.out.2.1.size), hs4, hf4⟩
  clear hw4 hbA hbB hs4 hf4 y0 y1 y2 z0 z1
  go_region_held3 (fun w' => (w'.cell? ⟨w.heap.size, 0, none⟩ = some (.int .i64 B) ∧ w'.cell? ⟨w.heap.size, 1, none⟩ = some (.int .i64 R) ∧ w'.cell? ⟨w.heap.size, 2, none⟩ = some (.int .i64 D)) ∧ Hid (Below w4.heap.size w4 w')) (first | exact rg_up3 hb5 (by assumption) | exact ⟨⟨u0, u1, u2⟩, ((Below.refl _ _).drew : Below w4.heap.size w4 w4.drew)⟩ | go_keep)
    ((first
      | (go_at_call 25; refine Calls.mono (H.out.2.2.1 _) ?_; rintro r w5 ⟨rfl, hb5⟩)
      | (go_at_call 26; refine Calls.mono (H.out.2.2.2.1 _) ?_; rintro r w5 ⟨rfl, hb5⟩)
      | fail))
  have hb45 : Below w4.heap.size w4 w5 := rgb3 (by assumption)
  rename_i hS3
  clear hS3 hb5 u0 u1 u2
  obtain ⟨st, hst⟩ : ∃ st, st = w2.heap.size := ⟨_, rfl⟩
  have hs5 := (hb45.block _ (t_lt HS.out.2.2.1)).trans HS.out.2.2.1
  have hf5 := (hb45.block _ (t_lt HS.out.2.2.2)).trans HS.out.2.2.2
  rw [← hst] at hs5 hf5 hsz ⊢
  have HS5 : Hid (Pt w0 w5 g c ∧ Below w.heap.size w w5 ∧ w5.heap[st]? = some (.cells #[.int .i64 R, .int .i64 R, .int .i64 D] 55 (0, 0)) ∧ w5.heap[st + 1]? = some (.cells #[.int .i64 B, .int .i64 B, .int .i64 R] 55 (0, 0))) := ⟨HS.out.1.below hb45, HS.out.2.1.trans (hb45.mono HS.out.2.1.size), hs5, hf5⟩
  have x0 := cell0_of (k := 0) hs5 rfl
  have x1 := cell0_of (k := 1) hs5 rfl
  have x2 := cell0_of (k := 2) hs5 rfl
  have x3 := cell0_of (k := 0) hf5 rfl
  have x4 := cell0_of (k := 1) hf5 rfl
  have x5 := cell0_of (k := 2) hf5 rfl
  have g0 := blk_free hs5 0
  have g1 := blk_free hs5 1
  have g2 := blk_free hs5 2
  have g3 := blk_free hf5 0
  have g4 := blk_free hf5 1
  have g5 := blk_free hf5 2
  have hne1 : ¬ st = st + 1 := by omega
  have hne2 : ¬ st + 1 = st := by omega
  clear hst hs5 hf5 hb45 HS HW
  go_upto_if 62 with fail
  go_cut [] (fun wx => SpM w0 w wx g c st (st + 1) sB sD fB fD)
  case first =>
    by_cases hlt : D - R < R - B
    · have hlt2 : ((D - R : Nat) : Int) < ((R - B : Nat) : Int) := by omega
      go_wp2_with fail
      go_meet
      case rel =>
        rcases HX.out with ⟨_, h1, h2, h3, h4⟩ | ⟨h, _⟩
        · have h5 : SpM w0 w w5 g c st (st + 1) R D B R := ⟨HS5.out.1, Kept.of_below HS5.out.2.1, HS5.out.2.2.1, HS5.out.2.2.2⟩
          rw [h1, h2, h3, h4]
          exact h5.swap hsz hgl H.out.2.2.2.2.1.bl.size
        · exact absurd hlt h
    · have hlt2 : ¬ ((D - R : Nat) : Int) < ((R - B : Nat) : Int) := by omega
      go_wp2_with fail
      go_meet
      case rel =>
        rcases HX.out with ⟨h, _⟩ | ⟨_, h1, h2, h3, h4⟩
        · exact absurd h hlt
        · rw [h1, h2, h3, h4]
          exact ⟨HS5.out.1, Kept.of_below HS5.out.2.1, HS5.out.2.2.1, HS5.out.2.2.2⟩
  case rest =>
    have hnx : ¬ g = st := by omega
    have hnx2 : ¬ st = g := by omega
    have hny : ¬ g = st + 1 := by omega
    have hny2 : ¬ st + 1 = g := by omega
    have HC : Hid (SpM w0 w wc g c st (st + 1) sB sD fB fD) := hcut
    clear x0 x1 x2 x3 x4 x5 g0 g1 g2 g3 g4 g5 HS5 hne1 hne2 H
    have g0 := hcut.pt.cell (i := 1) (by omega)
    rw [HL.out.1.nb, ← HN.out] at g0
    have f0 := hcut.pt.free 1
    have e2 : (0 : Int) ≤ (nb : Int) := by omega
    have e3 : (nb : Int) < 1000 := by omega
    have e4 : IntKind.i64.wrap ((nb : Int) + 1) = (nb : Int) + 1 := by rw [IntKind.wrap_i64]; omega
    have j1 : ¬ 3002 + b * 3 = 3002 + nb * 3 := by omega
    have j2 : ¬ b * 3 = nb * 3 := by omega
    have j3 : ¬ b = nb := by omega
    have j4 : ¬ nb = b := by omega
    clear hcut
    go_upto_region 14 with fail
    have hD := HC.out.set (by omega) 1 ((nb : Int) + 1)
    obtain ⟨wd, hwd⟩ : ∃ wd, wd = wc.setCell ⟨g, 1, none⟩ (.int .i64 ((nb : Int) + 1)) := ⟨_, rfl⟩
    rw [← hwd] at hD ⊢
    clear hwd HC g0 f0
    have HC : Hid (SpM w0 w wd g (upd c 1 ((nb : Int) + 1)) st (st + 1) sB sD fB fD) := hD
    have x0 := cell0_of (k := 0) hD.cs rfl
    have x1 := cell0_of (k := 1) hD.cs rfl
    have x2 := cell0_of (k := 2) hD.cs rfl
    have x3 := cell0_of (k := 0) hD.cf rfl
    have x4 := cell0_of (k := 1) hD.cf rfl
    have x5 := cell0_of (k := 2) hD.cf rfl
    have g1 := hD.pt.cell (i := 3002 + b * 3) (by omega)
    have g2 := hD.pt.cell (i := 3002 + b * 3 + 1) (by omega)
    have g3 := hD.pt.cell (i := 3002 + b * 3 + 2) (by omega)
    have g4 := hD.pt.cell (i := 3002 + nb * 3) (by omega)
    have g5 := hD.pt.cell (i := 3002 + nb * 3 + 1) (by omega)
    have g6 := hD.pt.cell (i := 3002 + nb * 3 + 2) (by omega)
    have f1 := hD.pt.free (3002 + b * 3)
    have f2 := hD.pt.free (3002 + b * 3 + 1)
    have f3 := hD.pt.free (3002 + b * 3 + 2)
    have f4 := hD.pt.free (3002 + nb * 3)
    have f5 := hD.pt.free (3002 + nb * 3 + 1)
    have f6 := hD.pt.free (3002 + nb * 3 + 2)
    clear hD
    go_region
    have hE := ((((((HC.out.set (by omega) (3002 + b * 3) sB).set (by omega) (3002 + b * 3 + 1) sB).set (by omega) (3002 + b * 3 + 2) sD).set (by omega) (3002 + nb * 3) fB).set (by omega) (3002 + nb * 3 + 1) fB).set (by omega) (3002 + nb * 3 + 2) fD).below (Below.refl _ _).drew
    obtain ⟨we, hwe⟩ : ∃ we, we = ((((((wd.setCell ⟨g, 3002 + b * 3, none⟩ (.int .i64 sB)).setCell ⟨g, 3002 + b * 3 + 1, none⟩ (.int .i64 sB)).setCell ⟨g, 3002 + b * 3 + 2, none⟩ (.int .i64 sD)).setCell ⟨g, 3002 + nb * 3, none⟩ (.int .i64 fB)).setCell ⟨g, 3002 + nb * 3 + 1, none⟩ (.int .i64 fB)).setCell ⟨g, 3002 + nb * 3 + 2, none⟩ (.int .i64 fD)).drew := ⟨_, rfl⟩
    rw [← hwe] at hE ⊢
    clear hwe HC x0 x1 x2 x3 x4 x5 g1 g2 g3 g4 g5 g6 f1 f2 f3 f4 f5 f6 j1 j2 j3 j4 e4
    have HE : Hid (SpM w0 w we g (cutC c b nb sB sD fB fD) st (st + 1) sB sD fB fD) := hE
    have x3 := cell0_of (k := 0) hE.cf rfl
    have x5 := cell0_of (k := 2) hE.cf rfl
    clear hE
    have hPa := part_any g fB fD HF.out.1 (by have := HF.out.2; have := HL.out.2.2.1; omega) we
    have HPa : Hid _ := And.intro hPa trivial
    clear hPa
    go_wp2_with (go_at_call 23; refine Calls.mono HPa.out.1 ?_; rintro r w6 ⟨rfl, hw6⟩; obtain rfl := hw6.symm; clear hw6)
    obtain ⟨K, hK⟩ : ∃ K, K = fD - fB := ⟨_, rfl⟩
    rw [← hK]
    have hKI : ((fD - fB : Nat) : Int) = (K : Int) := by rw [hK]
    have HK : Hid (K = fD - fB) := hK
    clear hK HPa x3 x5
    go_loopg [95] K (fun q kv wr => ∃ (j : Nat) (cj : Nat → Int), kv = .int .i64 j ∧ j ≤ K ∧ K - j ≤ q ∧ Pt w0 wr g cj ∧ Lay cj (s.cut b sB sD fB fD j) ∧ Kept (fun i => i = g) w wr)
    case atStart => exact ⟨0, _, rfl, Nat.zero_le _, Nat.le_refl _, HE.out.pt, by rw [HN.out]; exact cut_lay HL.out.1 HL.out.2.2.1, HE.out.kp⟩
    case round =>
      obtain ⟨j, cj, rfl, hj, hq, hPj, hLj, hKj⟩ := hrel
      by_cases hjK : j < K
      · have p1 : (j : Int) < (K : Int) := by omega
        have p2 : (0 : Int) ≤ (j : Int) := by omega
        have hfj : fB + j < s.n := by have := HF.out; have := HK.out; omega
        have hn := HL.out.2.2.1
        obtain ⟨q1, q2⟩ := HL.out.2.1.ep (fB + j) hfj
        have y1 := hPj.cell (i := 2 + (fB + j)) (by omega)
        rw [hLj.e (fB + j) hfj, ← Nat.add_assoc] at y1
        have y2 := hPj.cell (i := 2002 + s.E (fB + j)) (by omega)
        have y3 := hPj.free (2002 + s.E (fB + j))
        have HLn := cut_next HL.out.2.1 hLj hfj
        have hE' : (s.cut b sB sD fB fD j).E (fB + j) = s.E (fB + j) := rfl
        rw [hE'] at y1
        have p3 : (0 : Int) ≤ (s.E (fB + j) : Int) := by omega
        have p4 : (s.E (fB + j) : Int) < 1000 := by omega
        have p5 : j + 1 ≤ 1000 := by omega
        rw [← HN.out] at HLn
        generalize s.E (fB + j) = ee at y1 y2 y3 HLn p3 p4
        have HJ : Hid (Pt w0 wr g cj ∧ Lay (upd cj (2002 + ee) nb) (s.cut b sB sD fB fD (j + 1)) ∧ Kept (fun i => i = g) w wr) := ⟨hPj, HLn, hKj⟩
        clear hPj hLj hKj HLn hE' q1 q2 hn hfj
        go_wp2_with fail
        go_roundg (K - (j + 1))
        case measure => omega
        case rel => exact ⟨j + 1, _, by go_num, by omega, Nat.le_refl _, HJ.out.1.set _ _, HJ.out.2.1, HJ.out.2.2.trans (Kept.setCell _ _ _ _)⟩
      · have p1 : ¬ (j : Int) < (K : Int) := by omega
        have hjK' : j = K := by omega
        rw [hjK'] at hLj
        have HJ : Hid (Pt w0 wr g cj ∧ Lay cj (s.cut b sB sD fB fD K) ∧ Kept (fun i => i = g) w wr) := ⟨hPj, hLj, hKj⟩
        clear hPj hLj hKj
        go_wp2_with fail
        refine bodyPost_ret (v := .tuple #[.int .i64 nb, .bool true, .nilIface]) (by simp [results, Tryd.results11, go_sem]) rfl ?_
        exact ⟨rfl, cj, HJ.out.1, by rw [← HK.out]; exact HJ.out.2.1, HJ.out.2.2⟩
/-- A new block comes of Split at a block: it has marked and other elements. -/
def Pst.splits (s : Pst) (b : Nat) : Prop := s.B b < s.R b ∧ s.R b < s.D b
instance (s : Pst) (b : Nat) : Decidable (s.splits b) := inferInstanceAs (Decidable (_ ∧ _))
/-- The partition behind Split. -/
def Pst.split (s : Pst) (b : Nat) : Pst :=
  if s.splits b then (if s.D b - s.R b < s.R b - s.B b then s.cut b (s.B b) (s.R b) (s.R b) (s.D b) (s.D b - s.R b) else s.cut b (s.R b) (s.D b) (s.B b) (s.R b) (s.R b - s.B b)) else s.clear b
theorem split_ok {s : Pst} (hO : s.Ok) {b : Nat} (hb : b < s.nb) : (s.split b).Ok ∧ (s.split b).n = s.n ∧ (s.split b).P = s.P ∧ (s.split b).E = s.E ∧ ∀ y, y < s.n → (s.split b).isM y = (s.isM y && decide (s.O y ≠ b)) := by
  unfold Pst.split
  by_cases h : s.splits b
  · rw [if_pos h]
    by_cases h2 : s.D b - s.R b < s.R b - s.B b
    · rw [if_pos h2]
      have h3 := cut_ok hO hb h.1 h.2 (.inl ⟨rfl, rfl, rfl, rfl⟩)
      exact ⟨h3.1, rfl, rfl, rfl, h3.2⟩
    · rw [if_neg h2]
      have h3 := cut_ok hO hb h.1 h.2 (.inr ⟨rfl, rfl, rfl, rfl⟩)
      exact ⟨h3.1, rfl, rfl, rfl, h3.2⟩
  · rw [if_neg h]
    have h3 := clear_ok hO hb
    exact ⟨h3.1, rfl, rfl, rfl, h3.2⟩
theorem split_any (g : Nat) (c : Nat → Int) (s : Pst) (b : Nat) (w0 w : World) (hP : Pt w0 w g c) (hL : Lay c s) (hO : s.Ok) (hb : b < s.nb) :
    Calls Tryd.prog 11 #[.pointer (some ⟨g, 0, none⟩), .int .i64 b] w fun r w' => r = .returned (.tuple #[.int .i64 (if s.splits b then s.nb else 0 : Nat), .bool (decide (s.splits b)), .nilIface]) ∧ ∃ c', Pt w0 w' g c' ∧ Lay c' (s.split b) ∧ Kept (fun i => i = g) w w' := by
  have v := hO.iv b hb
  have hn := hO.n1
  have hf := hO.few
  unfold Pst.split
  by_cases h : s.splits b
  · rw [if_pos h, if_pos h, decide_eq_true h]
    by_cases h2 : s.D b - s.R b < s.R b - s.B b
    · rw [if_pos h2]
      exact split_some g c s b w0 w hP hL hO hb h.1 h.2 _ _ _ _ (.inl ⟨h2, rfl, rfl, rfl, rfl⟩)
    · rw [if_neg h2]
      exact split_some g c s b w0 w hP hL hO hb h.1 h.2 _ _ _ _ (.inr ⟨h2, rfl, rfl, rfl, rfl⟩)
  · rw [if_neg h, if_neg h, decide_eq_false h]
    refine (split_none g c s b w0 w hP hL hO hb (by unfold Pst.splits at h; omega)).mono ?_
    rintro r w' ⟨rfl, h1, h2⟩
    exact ⟨rfl, _, h1, clear_lay hL hn (by omega), h2⟩
set_option maxHeartbeats 1000000 in
theorem split_bad (g : Nat) (c : Nat → Int) (s : Pst) (b : Int) (a1 a3 : Addr) (w0 w : World) (hP : Pt w0 w g c) (hL : Lay c s) (hE : EnvR w a1 a3) (h : b < 0 ∨ (s.nb : Int) ≤ b) :
    Calls Tryd.prog 11 #[.pointer (some ⟨g, 0, none⟩), .int .i64 b] w fun r w' => ∃ x, r = .returned (.tuple #[.int .i64 0, .bool false, x]) ∧ Chain w' 0 0 a3 [refB] x ∧ Below w.heap.size w w' := by
  have hS := blocks_any g c w0 w hP
  rw [hL.nb] at hS
  have hl := lacks_bad g b s.nb a1 a3 w hE h
  generalize s.nb = n at hS hl
  have H : Hid _ := And.intro hS hl
  clear hS hl hP hL hE h
  go_enter Tryd.func11, Tryd.ntmps11
  go_wp2_with (first
    | (go_at_call 13; refine Calls.mono H.out.1 ?_; rintro r w1 ⟨rfl, hw1⟩; obtain rfl := hw1.symm; clear hw1)
    | (go_at_call 19; refine Calls.mono H.out.2 ?_; rintro r w1 ⟨x, rfl, hC, hb⟩; have HB : Hid _ := And.intro hC hb; obtain ⟨T, v, rfl⟩ := hC.iface; clear hC hb))
  refine bodyPost_ret (v := .tuple #[.int .i64 0, .bool false, .iface T v]) (by simp [results, Tryd.results11, go_sem]) rfl ?_
  exact ⟨_, rfl, HB.out.1, HB.out.2⟩
end Go.Proofs.YthfnikglcpoioaaDoor
