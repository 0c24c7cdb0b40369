/- Texts of this claim, joined: RfSplit, RfSplit2, Shelf, SoInts, RfMembers0, RfMembers. -/
import Derived.Test.YtpcndfffljmajaaGreatDoorPart1
import Derived.Shelf.Small.Bits
import Derived.Shelf.Strconv.Itoa0
import Derived.Shelf.Sort.Plain
import Derived.Test.YtpcndfffljmajaaGreatDoorProg
import Derived.Test.YtpcndfffljmajaaGreatDoorPart0
import Derived.Sort.OwnSortedInts
import Derived.Lib.SliceRun
/- refine: Split. -/
namespace Go.Proofs.YtpcndfffljmajaaGreatDoor
open Go.RowKit Go.Maps
attribute [local go_sem ↓] Go.wp_at_zero Go.wp_at_succ
theorem cellu {w w' : World} {a : Addr} {x : Value} (h : w.cell? a = some x) (hb : Below w.heap.size w w') : w'.cell? a = some x := (hb.cell (World.block_lt_of_cell? w _ h)).trans h
set_option maxRecDepth 100000 in
set_option maxHeartbeats 4000000 in
theorem split_none (g : Nat) (c : Nat → Int) (s : Pst) (b : Nat) (w0 w : World) (hP : Pt w0 w g c) (hL : Lay c s) (hO : s.Ok) (hb : b < s.nb) (hm : s.R b = s.B b ∨ s.D b = s.R b) :
    Calls Tryz.prog 17 #[.pointer (some ⟨g, 0, none⟩), .int .i64 b] w fun r w' => r = .returned (.tuple #[.int .i64 0, .bool false, .nilIface]) ∧ Pt w0 w' g (upd c (3002 + b * 3 + 1) (s.B b)) ∧ Kept (fun i => i = g) w w' := by
  obtain ⟨v1, v2, v3, v4⟩ := hO.iv b hb
  have hn := hO.n1
  have hf := hO.few
  have hS := blocks_any g c w0 w hP
  rw [hL.nb] at hS
  have hl := lacks_ok g b s.nb w (by omega) (by omega)
  have c0 := hP.cell (i := 3002 + b * 3) (by omega)
  rw [hL.b b hb] at c0
  have c1 := hP.cell (i := 3002 + b * 3 + 1) (by omega)
  rw [hL.r b hb] at c1
  have c2 := hP.cell (i := 3002 + b * 3 + 2) (by omega)
  rw [hL.d b hb] at c2
  have e0 : (0 : Int) ≤ (b : Int) := by omega
  have e1 : (b : Int) < 1000 := by omega
  have hM := fun W => marks_any (s.B b) (s.R b) (s.D b) v1 (by omega) W
  have hT := fun W => others_any (s.B b) (s.R b) (s.D b) v2 (by omega) W
  have l0 : b < 1000 := by omega
  generalize s.B b = B at *
  generalize s.R b = R at *
  generalize s.D b = D at *
  generalize s.nb = nb at hS hl
  have hgl := Arr.lt hP
  have hb1 : Below w.heap.size w (w.alloc (.cells #[.int .i64 B, .int .i64 R, .int .i64 D] 59)) := (Below.refl _ _).alloc (Nat.le_refl _) _
  have hn1 : (w.alloc (.cells #[.int .i64 B, .int .i64 R, .int .i64 D] 59)).heap[w.heap.size]? = some (.cells #[.int .i64 B, .int .i64 R, .int .i64 D] 59 (0, 0)) := heap_alloc_new _ _
  have H : Hid _ := And.intro hS (And.intro hl (And.intro hM (And.intro hT (And.intro hP (And.intro hb1 hn1)))))
  clear hS hl hP hL hO hn hf hM hT hb1 hn1
  by_cases h1 : R = B
  · have m0 : ((R - B : Nat) : Int) = 0 := by omega
    have m1 : R - B = 0 := by omega
    have HB : Hid (R = B) := h1
    clear h1 hm v1 v2 v3 v4
    go_enter Tryz.func17, Tryz.ntmps17
    go_wp2_with (first
      | (go_at_call 18; refine Calls.mono H.out.1 ?_; rintro r w1 ⟨rfl, hw1⟩; obtain rfl := hw1.symm; clear hw1)
      | (go_at_call 82; refine Calls.mono H.out.2.1 ?_; rintro r w1 ⟨rfl, hw1⟩; obtain rfl := hw1.symm; clear hw1)
      | (go_at_call 84; refine Calls.mono (H.out.2.2.1 _) ?_; rintro r w2 ⟨rfl, hb2⟩))
    have hP2 := (H.out.2.2.2.2.1.below H.out.2.2.2.2.2.1).below hb2
    have y0 := cell0_of (k := 0) ((hb2.block _ (t_lt H.out.2.2.2.2.2.2)).trans H.out.2.2.2.2.2.2) rfl
    have y1 := hP2.cell (i := 3002 + b * 3 + 1) (by omega)
    have f1 := hP2.free (3002 + b * 3 + 1)
    have hgn : ¬ g = w.heap.size := by omega
    have hgn2 : ¬ w.heap.size = g := by omega
    have HZ : Hid _ := And.intro hP2 (Kept.of_below (F := fun i => i = g) (H.out.2.2.2.2.2.1.trans (hb2.mono H.out.2.2.2.2.2.1.size)))
    clear hP2 hb2
    go_region
    all_goals go_wp2_with fail
    all_goals
      refine bodyPost_ret (v := .tuple #[.int .i64 0, .bool false, .nilIface]) (by simp [results, Tryz.results17, go_sem]) rfl ?_
      exact ⟨rfl, (HZ.out.1.set _ _).below (Below.refl _ _).drew, (HZ.out.2.trans (Kept.setCell _ _ _ _)).trans (Kept.of_below (Below.refl _ _).drew)⟩
  · have m0 : ¬ ((R - B : Nat) : Int) = 0 := by omega
    have m1 : ¬ R - B = 0 := by omega
    have o0 : ((D - R : Nat) : Int) = 0 := by omega
    have o1 : D - R = 0 := by omega
    have m2 : decide (((R - B : Nat) : Int) = 0) = false := decide_eq_false m0
    clear h1 hm v1 v2 v3 v4
    go_enter Tryz.func17, Tryz.ntmps17
    go_wp2_with (first
      | (go_at_call 18; refine Calls.mono H.out.1 ?_; rintro r w1 ⟨rfl, hw1⟩; obtain rfl := hw1.symm; clear hw1)
      | (go_at_call 82; refine Calls.mono H.out.2.1 ?_; rintro r w1 ⟨rfl, hw1⟩; obtain rfl := hw1.symm; clear hw1)
      | (go_at_call 84; refine Calls.mono (H.out.2.2.1 _) ?_; rintro r w1 ⟨rfl, hb1⟩; have y0 := cellu (cell0_of (k := 0) H.out.2.2.2.2.2.2 rfl) hb1; have y1 := cellu (cell0_of (k := 1) H.out.2.2.2.2.2.2 rfl) hb1; have y2 := cellu (cell0_of (k := 2) H.out.2.2.2.2.2.2 rfl) hb1)
      | (go_at_call 85; refine Calls.mono (H.out.2.2.2.1 _) ?_; rintro r w2 ⟨rfl, hb2'⟩; have hb2 := hb1.trans (hb2'.mono hb1.size)))
    clear y0 y1 y2 hb2' hb1
    have hP2 := (H.out.2.2.2.2.1.below H.out.2.2.2.2.2.1).below hb2
    have y0 := cell0_of (k := 0) ((hb2.block _ (t_lt H.out.2.2.2.2.2.2)).trans H.out.2.2.2.2.2.2) rfl
    have y1 := hP2.cell (i := 3002 + b * 3 + 1) (by omega)
    have f1 := hP2.free (3002 + b * 3 + 1)
    have hgn : ¬ g = w.heap.size := by omega
    have hgn2 : ¬ w.heap.size = g := by omega
    have HZ : Hid _ := And.intro hP2 (Kept.of_below (F := fun i => i = g) (H.out.2.2.2.2.2.1.trans (hb2.mono H.out.2.2.2.2.2.1.size)))
    clear hP2 hb2
    go_region
    all_goals go_wp2_with fail
    all_goals
      refine bodyPost_ret (v := .tuple #[.int .i64 0, .bool false, .nilIface]) (by simp [results, Tryz.results17, go_sem]) rfl ?_
      exact ⟨rfl, (HZ.out.1.set _ _).below (Below.refl _ _).drew, (HZ.out.2.trans (Kept.setCell _ _ _ _)).trans (Kept.of_below (Below.refl _ _).drew)⟩
end Go.Proofs.YtpcndfffljmajaaGreatDoor
/- refine: Split where there are marked and other elements. -/
namespace Go.Proofs.YtpcndfffljmajaaGreatDoor
open Go.RowKit Go.Maps
attribute [local go_sem ↓] Go.wp_at_zero Go.wp_at_succ
/-- The two bounds that Split makes, in memory beside the partition. -/
structure SpM (w0 w wx : World) (g : Nat) (c : Nat → Int) (st fr sB sD fB fD : Nat) : Prop where
  pt : Pt w0 wx g c
  kp : Kept (fun i => i = g) w wx
  cs : wx.heap[st]? = some (.cells #[.int .i64 sB, .int .i64 sB, .int .i64 sD] 59 (0, 0))
  cf : wx.heap[fr]? = some (.cells #[.int .i64 fB, .int .i64 fB, .int .i64 fD] 59 (0, 0))
theorem SpM.below {w0 w wx wy : World} {g : Nat} {c : Nat → Int} {st fr sB sD fB fD : Nat} (h : SpM w0 w wx g c st fr sB sD fB fD) (hb : Below wx.heap.size wx wy) : SpM w0 w wy g c st fr sB sD fB fD :=
  ⟨h.pt.below hb, h.kp.trans (Kept.of_below hb), (hb.block _ (t_lt h.cs)).trans h.cs, (hb.block _ (t_lt h.cf)).trans h.cf⟩
theorem blk_set3 {w : World} {b : Nat} {x0 x1 x2 : Value} {t : TypeId} (h : w.heap[b]? = some (.cells #[x0, x1, x2] t (0, 0))) (y0 y1 y2 : Value) : (((w.setCell ⟨b, 0, none⟩ y0).setCell ⟨b, 1, none⟩ y1).setCell ⟨b, 2, none⟩ y2).heap[b]? = some (.cells #[y0, y1, y2] t (0, 0)) := by
  have h0 := heap_setCell_same w b 0 _ _ y0 h
  have h1 := heap_setCell_same _ b 1 _ _ y1 h0
  exact heap_setCell_same _ b 2 _ _ y2 h1
theorem kept_set3 (w : World) (b : Nat) (y0 y1 y2 : Value) : Kept (fun i => i = b) w (((w.setCell ⟨b, 0, none⟩ y0).setCell ⟨b, 1, none⟩ y1).setCell ⟨b, 2, none⟩ y2) := ((Kept.setCell _ _ _ _).trans (Kept.setCell _ _ _ _)).trans (Kept.setCell _ _ _ _)
theorem SpM.swap {w0 w wx : World} {g : Nat} {c : Nat → Int} {st sB sD fB fD : Nat} (h : SpM w0 w wx g c st (st + 1) sB sD fB fD) (hw : w.heap.size < st) (hg : g < w.heap.size) (h0 : w0.heap.size ≤ w.heap.size) : SpM w0 w ((((((wx.setCell ⟨st, 0, none⟩ (.int .i64 fB)).setCell ⟨st, 1, none⟩ (.int .i64 fB)).setCell ⟨st, 2, none⟩ (.int .i64 fD)).setCell ⟨st + 1, 0, none⟩ (.int .i64 sB)).setCell ⟨st + 1, 1, none⟩ (.int .i64 sB)).setCell ⟨st + 1, 2, none⟩ (.int .i64 sD)) g c st (st + 1) fB fD sB sD := by
  have k1 := kept_set3 wx st (.int .i64 fB) (.int .i64 fB) (.int .i64 fD)
  have b1 := blk_set3 h.cs (.int .i64 fB) (.int .i64 fB) (.int .i64 fD)
  have b2 := (k1.block _ (t_lt h.cf) (by omega)).trans h.cf
  generalize ((wx.setCell ⟨st, 0, none⟩ (.int .i64 fB)).setCell ⟨st, 1, none⟩ (.int .i64 fB)).setCell ⟨st, 2, none⟩ (.int .i64 fD) = w1 at k1 b1 b2 ⊢
  have k2 := kept_set3 w1 (st + 1) (.int .i64 sB) (.int .i64 sB) (.int .i64 sD)
  have b3 := blk_set3 b2 (.int .i64 sB) (.int .i64 sB) (.int .i64 sD)
  have b4 := (k2.block _ (t_lt b1) (by omega)).trans b1
  refine ⟨(h.pt.kept k1 fun b hb => ⟨by omega, by omega⟩).kept k2 fun b hb => ⟨by omega, by omega⟩, (h.kp.trans2 k1 fun i hi => Or.inr (by omega)).trans2 k2 fun i hi => Or.inr (by omega), b4, b3⟩
theorem SpM.set {w0 w wx : World} {g : Nat} {c : Nat → Int} {st sB sD fB fD : Nat} (h : SpM w0 w wx g c st (st + 1) sB sD fB fD) (hg : g < st) (i : Nat) (x : Int) : SpM w0 w (wx.setCell ⟨g, i, none⟩ (.int .i64 x)) g (upd c i x) st (st + 1) sB sD fB fD :=
  have k := Kept.setCell wx g i (.int .i64 x)
  ⟨h.pt.set i x, h.kp.trans k, (k.block _ (t_lt h.cs) (by omega)).trans h.cs, (k.block _ (t_lt h.cf) (by omega)).trans h.cf⟩
theorem rgb3 {w wr : World} {P : Prop} (h : P ∧ Hid (Below w.heap.size w wr)) : Below w.heap.size w wr := h.2.out
theorem rg_up3 {w2 wa wb : World} {a0 a1 a2 : Addr} {x0 x1 x2 : Value} (hb : Below wa.heap.size wa wb) (h : (wa.cell? a0 = some x0 ∧ wa.cell? a1 = some x1 ∧ wa.cell? a2 = some x2) ∧ Hid (Below w2.heap.size w2 wa)) : (wb.cell? a0 = some x0 ∧ wb.cell? a1 = some x1 ∧ wb.cell? a2 = some x2) ∧ Hid (Below w2.heap.size w2 wb) :=
  ⟨⟨cellu h.1.1 hb, cellu h.1.2.1 hb, cellu h.1.2.2 hb⟩, (h.2.out.trans (hb.mono h.2.out.size) : Below w2.heap.size w2 wb)⟩
set_option maxRecDepth 100000 in
set_option maxHeartbeats 8000000 in
theorem split_some (g : Nat) (c : Nat → Int) (s : Pst) (b : Nat) (w0 w : World) (hP : Pt w0 w g c) (hL : Lay c s) (hO : s.Ok) (hb : b < s.nb) (hm : s.B b < s.R b) (ho : s.R b < s.D b) (sB sD fB fD : Nat)
    (hx : (s.D b - s.R b < s.R b - s.B b ∧ sB = s.B b ∧ sD = s.R b ∧ fB = s.R b ∧ fD = s.D b) ∨ (¬ s.D b - s.R b < s.R b - s.B b ∧ sB = s.R b ∧ sD = s.D b ∧ fB = s.B b ∧ fD = s.R b)) :
    Calls Tryz.prog 17 #[.pointer (some ⟨g, 0, none⟩), .int .i64 b] w fun r w' => r = .returned (.tuple #[.int .i64 s.nb, .bool true, .nilIface]) ∧ ∃ c', Pt w0 w' g c' ∧ Lay c' (s.cut b sB sD fB fD (fD - fB)) ∧ Kept (fun i => i = g) w w' := by
  obtain ⟨v1, v2, v3, v4⟩ := hO.iv b hb
  have hn := hO.n1
  have hf := hO.few2 hb (by omega)
  have hS := blocks_any g c w0 w hP
  rw [hL.nb] at hS
  have hl := lacks_ok g b s.nb w (by omega) (by omega)
  have c0 := hP.cell (i := 3002 + b * 3) (by omega)
  rw [hL.b b hb] at c0
  have c1 := hP.cell (i := 3002 + b * 3 + 1) (by omega)
  rw [hL.r b hb] at c1
  have c2 := hP.cell (i := 3002 + b * 3 + 2) (by omega)
  rw [hL.d b hb] at c2
  have e0 : (0 : Int) ≤ (b : Int) := by omega
  have e1 : (b : Int) < 1000 := by omega
  have hM := fun W => marks_any (s.B b) (s.R b) (s.D b) v1 (by omega) W
  have hT := fun W => others_any (s.B b) (s.R b) (s.D b) v2 (by omega) W
  have l0 : b < 1000 := by omega
  have HL : Hid (Lay c s ∧ s.Ok ∧ s.n ≤ 1000 ∧ s.nb + 1 ≤ s.n) := ⟨hL, hO, hn, hf⟩
  have l1 : s.nb < 1000 := by omega
  have l2 : b < s.nb := hb
  have hfD : fB < fD ∧ fD ≤ s.n := by omega
  obtain ⟨B, hB⟩ : ∃ B, B = s.B b := ⟨_, rfl⟩
  obtain ⟨R, hR⟩ : ∃ R, R = s.R b := ⟨_, rfl⟩
  obtain ⟨D, hD⟩ : ∃ D, D = s.D b := ⟨_, rfl⟩
  rw [← hB] at c0 hM hT v1 v3 hm hx
  rw [← hR] at c1 hM hT v1 v2 hm ho hx
  rw [← hD] at c2 hM hT v2 v3 v4 ho hx
  obtain ⟨nb, hnb⟩ : ∃ nb, nb = s.nb := ⟨_, rfl⟩
  rw [← hnb] at hS hl l1 l2 ⊢
  have HN : Hid (nb = s.nb) := hnb
  clear hB hR hD hnb
  have hgl := Arr.lt hP
  have hb1 : Below w.heap.size w (w.alloc (.cells #[.int .i64 B, .int .i64 R, .int .i64 D] 59)) := (Below.refl _ _).alloc (Nat.le_refl _) _
  have hn1 : (w.alloc (.cells #[.int .i64 B, .int .i64 R, .int .i64 D] 59)).heap[w.heap.size]? = some (.cells #[.int .i64 B, .int .i64 R, .int .i64 D] 59 (0, 0)) := heap_alloc_new _ _
  have H : Hid _ := And.intro hS (And.intro hl (And.intro hM (And.intro hT (And.intro hP (And.intro hb1 hn1)))))
  have m0 : ¬ ((R - B : Nat) : Int) = 0 := by omega
  have m1 : ¬ R - B = 0 := by omega
  have o0 : ¬ ((D - R : Nat) : Int) = 0 := by omega
  have o1 : ¬ D - R = 0 := by omega
  have m2 : decide (((R - B : Nat) : Int) = 0) = false := decide_eq_false m0
  have o2 : decide (((D - R : Nat) : Int) = 0) = false := decide_eq_false o0
  have m3 : (((R - B : Nat) : Int) == 0) = false := by simpa using m0
  have o3 : (((D - R : Nat) : Int) == 0) = false := by simpa using o0
  have HX : Hid ((D - R < R - B ∧ sB = B ∧ sD = R ∧ fB = R ∧ fD = D) ∨ (¬ D - R < R - B ∧ sB = R ∧ sD = D ∧ fB = B ∧ fD = R)) := hx
  have HF : Hid (fB < fD ∧ fD ≤ s.n) := hfD
  clear hS hl hP hL hO hn hf hM hT hb1 hn1 hb hm ho v1 v2 v3 v4 hx hfD
  go_enter Tryz.func17, Tryz.ntmps17
  go_upto_region 10 with (first
    | (go_at_call 18; refine Calls.mono H.out.1 ?_; rintro r w1 ⟨rfl, hw1⟩; obtain rfl := hw1.symm; clear hw1)
    | (go_at_call 82; refine Calls.mono H.out.2.1 ?_; rintro r w1 ⟨rfl, hw1⟩; obtain rfl := hw1.symm; clear hw1)
    | (go_at_call 84; refine Calls.mono (H.out.2.2.1 _) ?_; rintro r w1 ⟨rfl, hb1⟩; have y0 := cellu (cell0_of (k := 0) H.out.2.2.2.2.2.2 rfl) hb1; have y1 := cellu (cell0_of (k := 1) H.out.2.2.2.2.2.2 rfl) hb1; have y2 := cellu (cell0_of (k := 2) H.out.2.2.2.2.2.2 rfl) hb1)
    | (go_at_call 85; refine Calls.mono (H.out.2.2.2.1 _) ?_; rintro r w2 ⟨rfl, hb2'⟩; have hb2 := hb1.trans (hb2'.mono hb1.size); clear y0 y1 y2 hb2' hb1; have hbl := (hb2.block _ (t_lt H.out.2.2.2.2.2.2)).trans H.out.2.2.2.2.2.2; have y0 := cell0_of (k := 0) hbl rfl; have y1 := cell0_of (k := 1) hbl rfl; have y2 := cell0_of (k := 2) hbl rfl; have HW : Hid (Pt w0 w2 g c ∧ Below w.heap.size w w2 ∧ w2.heap[w.heap.size]? = some (.cells #[.int .i64 B, .int .i64 R, .int .i64 D] 59 (0, 0))) := ⟨(H.out.2.2.2.2.1.below H.out.2.2.2.2.2.1).below hb2, H.out.2.2.2.2.2.1.trans (hb2.mono H.out.2.2.2.2.2.1.size), hbl⟩; have hbA : Below w2.heap.size w2 (w2.alloc (.cells #[.int .i64 R, .int .i64 R, .int .i64 D] 59)) := (Below.refl _ _).alloc (Nat.le_refl _) _; have z0 := cellu y0 hbA; have z1 := cellu y1 hbA; clear hbA hb2 hbl c0 c1 c2))
  obtain ⟨w4, hw4⟩ : ∃ w4, w4 = (w2.alloc (.cells #[.int .i64 R, .int .i64 R, .int .i64 D] 59)).alloc (.cells #[.int .i64 B, .int .i64 B, .int .i64 R] 59) := ⟨_, rfl⟩
  rw [← hw4]
  have hbA : Below w2.heap.size w2 (w2.alloc (.cells #[.int .i64 R, .int .i64 R, .int .i64 D] 59)) := (Below.refl _ _).alloc (Nat.le_refl _) _
  have hbB : Below w2.heap.size w2 w4 := by rw [hw4]; exact hbA.alloc hbA.size _
  have hs4 : w4.heap[w2.heap.size]? = some (.cells #[.int .i64 R, .int .i64 R, .int .i64 D] 59 (0, 0)) := by
    rw [hw4]
    exact ((MapKept.heap_alloc _ _).2 _ (by simp)).trans (MapKept.heap_alloc w2 _).1
  have hf4 : w4.heap[w2.heap.size + 1]? = some (.cells #[.int .i64 B, .int .i64 B, .int .i64 R] 59 (0, 0)) := by rw [hw4]; exact two_alloc w2 _ _
  have hsz : w.heap.size < w2.heap.size := t_lt HW.out.2.2
  have u0 := cellu y0 hbB
  have u1 := cellu y1 hbB
  have u2 := cellu y2 hbB
  have HS : Hid (Pt w0 w4 g c ∧ Below w.heap.size w w4 ∧ w4.heap[w2.heap.size]? = some (.cells #[.int .i64 R, .int .i64 R, .int .i64 D] 59 (0, 0)) ∧ w4.heap[w2.heap.size + 1]? = some (.cells #[.int .i64 B, .int .i64 B, .int .i64 R] 59 (0, 0))) := ⟨HW.out.1.below hbB, HW.out.2.1.trans (hbB.mono HW.out.2.1.size), hs4, hf4⟩
  clear hw4 hbA hbB hs4 hf4 y0 y1 y2 z0 z1
  go_region_held3 (fun w' => (w'.cell? ⟨w.heap.size, 0, none⟩ = some (.int .i64 B) ∧ w'.cell? ⟨w.heap.size, 1, none⟩ = some (.int .i64 R) ∧ w'.cell? ⟨w.heap.size, 2, none⟩ = some (.int .i64 D)) ∧ Hid (Below w4.heap.size w4 w')) (first | exact rg_up3 hb5 (by assumption) | exact ⟨⟨u0, u1, u2⟩, ((Below.refl _ _).drew : Below w4.heap.size w4 w4.drew)⟩ | go_keep)
    ((first
      | (go_at_call 84; refine Calls.mono (H.out.2.2.1 _) ?_; rintro r w5 ⟨rfl, hb5⟩)
      | (go_at_call 85; refine Calls.mono (H.out.2.2.2.1 _) ?_; rintro r w5 ⟨rfl, hb5⟩)
      | fail))
  have hb45 : Below w4.heap.size w4 w5 := rgb3 (by assumption)
  rename_i hS3
  clear hS3 hb5 u0 u1 u2
  obtain ⟨st, hst⟩ : ∃ st, st = w2.heap.size := ⟨_, rfl⟩
  have hs5 := (hb45.block _ (t_lt HS.out.2.2.1)).trans HS.out.2.2.1
  have hf5 := (hb45.block _ (t_lt HS.out.2.2.2)).trans HS.out.2.2.2
  rw [← hst] at hs5 hf5 hsz ⊢
  have HS5 : Hid (Pt w0 w5 g c ∧ Below w.heap.size w w5 ∧ w5.heap[st]? = some (.cells #[.int .i64 R, .int .i64 R, .int .i64 D] 59 (0, 0)) ∧ w5.heap[st + 1]? = some (.cells #[.int .i64 B, .int .i64 B, .int .i64 R] 59 (0, 0))) := ⟨HS.out.1.below hb45, HS.out.2.1.trans (hb45.mono HS.out.2.1.size), hs5, hf5⟩
  have x0 := cell0_of (k := 0) hs5 rfl
  have x1 := cell0_of (k := 1) hs5 rfl
  have x2 := cell0_of (k := 2) hs5 rfl
  have x3 := cell0_of (k := 0) hf5 rfl
  have x4 := cell0_of (k := 1) hf5 rfl
  have x5 := cell0_of (k := 2) hf5 rfl
  have g0 := blk_free hs5 0
  have g1 := blk_free hs5 1
  have g2 := blk_free hs5 2
  have g3 := blk_free hf5 0
  have g4 := blk_free hf5 1
  have g5 := blk_free hf5 2
  have hne1 : ¬ st = st + 1 := by omega
  have hne2 : ¬ st + 1 = st := by omega
  clear hst hs5 hf5 hb45 HS HW
  go_upto_if 62 with fail
  go_cut [] (fun wx => SpM w0 w wx g c st (st + 1) sB sD fB fD)
  case first =>
    by_cases hlt : D - R < R - B
    · have hlt2 : ((D - R : Nat) : Int) < ((R - B : Nat) : Int) := by omega
      go_wp2_with fail
      go_meet
      case rel =>
        rcases HX.out with ⟨_, h1, h2, h3, h4⟩ | ⟨h, _⟩
        · have h5 : SpM w0 w w5 g c st (st + 1) R D B R := ⟨HS5.out.1, Kept.of_below HS5.out.2.1, HS5.out.2.2.1, HS5.out.2.2.2⟩
          rw [h1, h2, h3, h4]
          exact h5.swap hsz hgl H.out.2.2.2.2.1.bl.size
        · exact absurd hlt h
    · have hlt2 : ¬ ((D - R : Nat) : Int) < ((R - B : Nat) : Int) := by omega
      go_wp2_with fail
      go_meet
      case rel =>
        rcases HX.out with ⟨h, _⟩ | ⟨_, h1, h2, h3, h4⟩
        · exact absurd h hlt
        · rw [h1, h2, h3, h4]
          exact ⟨HS5.out.1, Kept.of_below HS5.out.2.1, HS5.out.2.2.1, HS5.out.2.2.2⟩
  case rest =>
    have hnx : ¬ g = st := by omega
    have hnx2 : ¬ st = g := by omega
    have hny : ¬ g = st + 1 := by omega
    have hny2 : ¬ st + 1 = g := by omega
    have HC : Hid (SpM w0 w wc g c st (st + 1) sB sD fB fD) := hcut
    clear x0 x1 x2 x3 x4 x5 g0 g1 g2 g3 g4 g5 HS5 hne1 hne2 H
    have g0 := hcut.pt.cell (i := 1) (by omega)
    rw [HL.out.1.nb, ← HN.out] at g0
    have f0 := hcut.pt.free 1
    have e2 : (0 : Int) ≤ (nb : Int) := by omega
    have e3 : (nb : Int) < 1000 := by omega
    have e4 : IntKind.i64.wrap ((nb : Int) + 1) = (nb : Int) + 1 := by rw [IntKind.wrap_i64]; omega
    have j1 : ¬ 3002 + b * 3 = 3002 + nb * 3 := by omega
    have j2 : ¬ b * 3 = nb * 3 := by omega
    have j3 : ¬ b = nb := by omega
    have j4 : ¬ nb = b := by omega
    clear hcut
    go_upto_region 14 with fail
    have hD := HC.out.set (by omega) 1 ((nb : Int) + 1)
    obtain ⟨wd, hwd⟩ : ∃ wd, wd = wc.setCell ⟨g, 1, none⟩ (.int .i64 ((nb : Int) + 1)) := ⟨_, rfl⟩
    rw [← hwd] at hD ⊢
    clear hwd HC g0 f0
    have HC : Hid (SpM w0 w wd g (upd c 1 ((nb : Int) + 1)) st (st + 1) sB sD fB fD) := hD
    have x0 := cell0_of (k := 0) hD.cs rfl
    have x1 := cell0_of (k := 1) hD.cs rfl
    have x2 := cell0_of (k := 2) hD.cs rfl
    have x3 := cell0_of (k := 0) hD.cf rfl
    have x4 := cell0_of (k := 1) hD.cf rfl
    have x5 := cell0_of (k := 2) hD.cf rfl
    have g1 := hD.pt.cell (i := 3002 + b * 3) (by omega)
    have g2 := hD.pt.cell (i := 3002 + b * 3 + 1) (by omega)
    have g3 := hD.pt.cell (i := 3002 + b * 3 + 2) (by omega)
    have g4 := hD.pt.cell (i := 3002 + nb * 3) (by omega)
    have g5 := hD.pt.cell (i := 3002 + nb * 3 + 1) (by omega)
    have g6 := hD.pt.cell (i := 3002 + nb * 3 + 2) (by omega)
    have f1 := hD.pt.free (3002 + b * 3)
    have f2 := hD.pt.free (3002 + b * 3 + 1)
    have f3 := hD.pt.free (3002 + b * 3 + 2)
    have f4 := hD.pt.free (3002 + nb * 3)
    have f5 := hD.pt.free (3002 + nb * 3 + 1)
    have f6 := hD.pt.free (3002 + nb * 3 + 2)
    clear hD
    go_region
    have hE := ((((((HC.out.set (by omega) (3002 + b * 3) sB).set (by omega) (3002 + b * 3 + 1) sB).set (by omega) (3002 + b * 3 + 2) sD).set (by omega) (3002 + nb * 3) fB).set (by omega) (3002 + nb * 3 + 1) fB).set (by omega) (3002 + nb * 3 + 2) fD).below (Below.refl _ _).drew
    obtain ⟨we, hwe⟩ : ∃ we, we = ((((((wd.setCell ⟨g, 3002 + b * 3, none⟩ (.int .i64 sB)).setCell ⟨g, 3002 + b * 3 + 1, none⟩ (.int .i64 sB)).setCell ⟨g, 3002 + b * 3 + 2, none⟩ (.int .i64 sD)).setCell ⟨g, 3002 + nb * 3, none⟩ (.int .i64 fB)).setCell ⟨g, 3002 + nb * 3 + 1, none⟩ (.int .i64 fB)).setCell ⟨g, 3002 + nb * 3 + 2, none⟩ (.int .i64 fD)).drew := ⟨_, rfl⟩
    rw [← hwe] at hE ⊢
    clear hwe HC x0 x1 x2 x3 x4 x5 g1 g2 g3 g4 g5 g6 f1 f2 f3 f4 f5 f6 j1 j2 j3 j4 e4
    have HE : Hid (SpM w0 w we g (cutC c b nb sB sD fB fD) st (st + 1) sB sD fB fD) := hE
    have x3 := cell0_of (k := 0) hE.cf rfl
    have x5 := cell0_of (k := 2) hE.cf rfl
    clear hE
    have hPa := part_any g fB fD HF.out.1 (by have := HF.out.2; have := HL.out.2.2.1; omega) we
    have HPa : Hid _ := And.intro hPa trivial
    clear hPa
    go_wp2_with (go_at_call 86; refine Calls.mono HPa.out.1 ?_; rintro r w6 ⟨rfl, hw6⟩; obtain rfl := hw6.symm; clear hw6)
    obtain ⟨K, hK⟩ : ∃ K, K = fD - fB := ⟨_, rfl⟩
    rw [← hK]
    have hKI : ((fD - fB : Nat) : Int) = (K : Int) := by rw [hK]
    have HK : Hid (K = fD - fB) := hK
    clear hK HPa x3 x5
    go_loopg [95] K (fun q kv wr => ∃ (j : Nat) (cj : Nat → Int), kv = .int .i64 j ∧ j ≤ K ∧ K - j ≤ q ∧ Pt w0 wr g cj ∧ Lay cj (s.cut b sB sD fB fD j) ∧ Kept (fun i => i = g) w wr)
    case atStart => exact ⟨0, _, rfl, Nat.zero_le _, Nat.le_refl _, HE.out.pt, by rw [HN.out]; exact cut_lay HL.out.1 HL.out.2.2.1, HE.out.kp⟩
    case round =>
      obtain ⟨j, cj, rfl, hj, hq, hPj, hLj, hKj⟩ := hrel
      by_cases hjK : j < K
      · have p1 : (j : Int) < (K : Int) := by omega
        have p2 : (0 : Int) ≤ (j : Int) := by omega
        have hfj : fB + j < s.n := by have := HF.out; have := HK.out; omega
        have hn := HL.out.2.2.1
        obtain ⟨q1, q2⟩ := HL.out.2.1.ep (fB + j) hfj
        have y1 := hPj.cell (i := 2 + (fB + j)) (by omega)
        rw [hLj.e (fB + j) hfj, ← Nat.add_assoc] at y1
        have y2 := hPj.cell (i := 2002 + s.E (fB + j)) (by omega)
        have y3 := hPj.free (2002 + s.E (fB + j))
        have HLn := cut_next HL.out.2.1 hLj hfj
        have hE' : (s.cut b sB sD fB fD j).E (fB + j) = s.E (fB + j) := rfl
        rw [hE'] at y1
        have p3 : (0 : Int) ≤ (s.E (fB + j) : Int) := by omega
        have p4 : (s.E (fB + j) : Int) < 1000 := by omega
        have p5 : j + 1 ≤ 1000 := by omega
        rw [← HN.out] at HLn
        generalize s.E (fB + j) = ee at y1 y2 y3 HLn p3 p4
        have HJ : Hid (Pt w0 wr g cj ∧ Lay (upd cj (2002 + ee) nb) (s.cut b sB sD fB fD (j + 1)) ∧ Kept (fun i => i = g) w wr) := ⟨hPj, HLn, hKj⟩
        clear hPj hLj hKj HLn hE' q1 q2 hn hfj
        go_wp2_with fail
        go_roundg (K - (j + 1))
        case measure => omega
        case rel => exact ⟨j + 1, _, by go_num, by omega, Nat.le_refl _, HJ.out.1.set _ _, HJ.out.2.1, HJ.out.2.2.trans (Kept.setCell _ _ _ _)⟩
      · have p1 : ¬ (j : Int) < (K : Int) := by omega
        have hjK' : j = K := by omega
        rw [hjK'] at hLj
        have HJ : Hid (Pt w0 wr g cj ∧ Lay cj (s.cut b sB sD fB fD K) ∧ Kept (fun i => i = g) w wr) := ⟨hPj, hLj, hKj⟩
        clear hPj hLj hKj
        go_wp2_with fail
        refine bodyPost_ret (v := .tuple #[.int .i64 nb, .bool true, .nilIface]) (by simp [results, Tryz.results17, go_sem]) rfl ?_
        exact ⟨rfl, cj, HJ.out.1, by rw [← HK.out]; exact HJ.out.2.1, HJ.out.2.2⟩
/-- A new block comes of Split at a block: it has marked and other elements. -/
def Pst.splits (s : Pst) (b : Nat) : Prop := s.B b < s.R b ∧ s.R b < s.D b
instance (s : Pst) (b : Nat) : Decidable (s.splits b) := inferInstanceAs (Decidable (_ ∧ _))
/-- The partition behind Split. -/
def Pst.split (s : Pst) (b : Nat) : Pst :=
  if s.splits b then (if s.D b - s.R b < s.R b - s.B b then s.cut b (s.B b) (s.R b) (s.R b) (s.D b) (s.D b - s.R b) else s.cut b (s.R b) (s.D b) (s.B b) (s.R b) (s.R b - s.B b)) else s.clear b
theorem split_ok {s : Pst} (hO : s.Ok) {b : Nat} (hb : b < s.nb) : (s.split b).Ok ∧ (s.split b).n = s.n ∧ (s.split b).P = s.P ∧ (s.split b).E = s.E ∧ ∀ y, y < s.n → (s.split b).isM y = (s.isM y && decide (s.O y ≠ b)) := by
  unfold Pst.split
  by_cases h : s.splits b
  · rw [if_pos h]
    by_cases h2 : s.D b - s.R b < s.R b - s.B b
    · rw [if_pos h2]
      have h3 := cut_ok hO hb h.1 h.2 (.inl ⟨rfl, rfl, rfl, rfl⟩)
      exact ⟨h3.1, rfl, rfl, rfl, h3.2⟩
    · rw [if_neg h2]
      have h3 := cut_ok hO hb h.1 h.2 (.inr ⟨rfl, rfl, rfl, rfl⟩)
      exact ⟨h3.1, rfl, rfl, rfl, h3.2⟩
  · rw [if_neg h]
    have h3 := clear_ok hO hb
    exact ⟨h3.1, rfl, rfl, rfl, h3.2⟩
theorem split_any (g : Nat) (c : Nat → Int) (s : Pst) (b : Nat) (w0 w : World) (hP : Pt w0 w g c) (hL : Lay c s) (hO : s.Ok) (hb : b < s.nb) :
    Calls Tryz.prog 17 #[.pointer (some ⟨g, 0, none⟩), .int .i64 b] w fun r w' => r = .returned (.tuple #[.int .i64 (if s.splits b then s.nb else 0 : Nat), .bool (decide (s.splits b)), .nilIface]) ∧ ∃ c', Pt w0 w' g c' ∧ Lay c' (s.split b) ∧ Kept (fun i => i = g) w w' := by
  have v := hO.iv b hb
  have hn := hO.n1
  have hf := hO.few
  unfold Pst.split
  by_cases h : s.splits b
  · rw [if_pos h, if_pos h, decide_eq_true h]
    by_cases h2 : s.D b - s.R b < s.R b - s.B b
    · rw [if_pos h2]
      exact split_some g c s b w0 w hP hL hO hb h.1 h.2 _ _ _ _ (.inl ⟨h2, rfl, rfl, rfl, rfl⟩)
    · rw [if_neg h2]
      exact split_some g c s b w0 w hP hL hO hb h.1 h.2 _ _ _ _ (.inr ⟨h2, rfl, rfl, rfl, rfl⟩)
  · rw [if_neg h, if_neg h, decide_eq_false h]
    refine (split_none g c s b w0 w hP hL hO hb (by unfold Pst.splits at h; omega)).mono ?_
    rintro r w' ⟨rfl, h1, h2⟩
    exact ⟨rfl, _, h1, clear_lay hL hn (by omega), h2⟩
set_option maxHeartbeats 1000000 in
theorem split_bad (g : Nat) (c : Nat → Int) (s : Pst) (b : Int) (a1 a3 : Addr) (w0 w : World) (hP : Pt w0 w g c) (hL : Lay c s) (hE : EnvR w a1 a3) (h : b < 0 ∨ (s.nb : Int) ≤ b) :
    Calls Tryz.prog 17 #[.pointer (some ⟨g, 0, none⟩), .int .i64 b] w fun r w' => ∃ x, r = .returned (.tuple #[.int .i64 0, .bool false, x]) ∧ Chain w' 0 0 a3 [refB] x ∧ Below w.heap.size w w' := by
  have hS := blocks_any g c w0 w hP
  rw [hL.nb] at hS
  have hl := lacks_bad g b s.nb a1 a3 w hE h
  generalize s.nb = n at hS hl
  have H : Hid _ := And.intro hS hl
  clear hS hl hP hL hE h
  go_enter Tryz.func17, Tryz.ntmps17
  go_wp2_with (first
    | (go_at_call 18; refine Calls.mono H.out.1 ?_; rintro r w1 ⟨rfl, hw1⟩; obtain rfl := hw1.symm; clear hw1)
    | (go_at_call 82; refine Calls.mono H.out.2 ?_; rintro r w1 ⟨x, rfl, hC, hb⟩; have HB : Hid _ := And.intro hC hb; obtain ⟨T, v, rfl⟩ := hC.iface; clear hC hb))
  refine bodyPost_ret (v := .tuple #[.int .i64 0, .bool false, .iface T v]) (by simp [results, Tryz.results17, go_sem]) rfl ?_
  exact ⟨_, rfl, HB.out.1, HB.out.2⟩
end Go.Proofs.YtpcndfffljmajaaGreatDoor
/- Contracts of three functions of Go's library at this program, laid by the shelf's own tools in plain words. -/
namespace Go.Proofs
open Go.Shelf
def Tryz.lays128_ren : Go.Shelf.Ren := ⟨fun | 128 => 133 | n => n, fun | 51 => 207 | 3 => 3 | 4 => 4 | 46 => 180 | 5 => 5 | 9 => 9 | n => n, fun | n => n⟩
theorem Tryz.lays128 : Go.Proofs.Lays.n128 Tryz.prog Tryz.lays128_ren := {
  mixed := by kernel_rfl
  f128 := Tryz.func133.trans (congrArg some (by kernel_rfl))
  t3 := Tryz.underlying3
  a3 := Tryz.isAgg3
  z3 := Tryz.sizeOf3
  v3 := Tryz.zeroValue3
  t4 := Tryz.underlying4
  a4 := Tryz.isAgg4
  z4 := Tryz.sizeOf4
  v4 := Tryz.zeroValue4
  t5 := Tryz.underlying5
  a5 := Tryz.isAgg5
  z5 := Tryz.sizeOf5
  v5 := Tryz.zeroValue5
  t9 := Tryz.underlying9
  a9 := Tryz.isAgg9
  z9 := Tryz.sizeOf9
  v9 := Tryz.zeroValue9
  t46 := Tryz.underlying180
  a46 := Tryz.isAgg180
  z46 := Tryz.sizeOf180
  v46 := Tryz.zeroValue180
  t51 := Tryz.underlying207
  a51 := Tryz.isAgg207
  z51 := Tryz.sizeOf207
  v51 := Tryz.zeroValue207 }
theorem Tryz.bits_Len32 (x : Int) (w : World) (h0 : 0 ≤ x) (h1 : x ≤ 4294967295) :
    Calls Tryz.prog 133 #[.int .u32 x] w fun e w' => e = .returned (.int .i64 (Lib.bitLen x.toNat)) ∧ w' = w := Any.bits_Len32 Tryz.lays128 x w h0 h1
def Tryz.lays125_ren : Go.Shelf.Ren := ⟨fun | 125 => 121 | 128 => 133 | 129 => 134 | n => n, fun | 46 => 180 | 3 => 3 | 51 => 207 | 53 => 209 | 4 => 4 | 5 => 5 | 9 => 9 | n => n, fun | n => n⟩
theorem Tryz.lays125 : Go.Proofs.Lays.n125 Tryz.prog Tryz.lays125_ren := {
  mixed := by kernel_rfl
  f125 := Tryz.func121.trans (congrArg some (by kernel_rfl))
  f128 := Tryz.func133.trans (congrArg some (by kernel_rfl))
  f129 := Tryz.func134.trans (congrArg some (by kernel_rfl))
  t3 := Tryz.underlying3
  a3 := Tryz.isAgg3
  z3 := Tryz.sizeOf3
  v3 := Tryz.zeroValue3
  t4 := Tryz.underlying4
  a4 := Tryz.isAgg4
  z4 := Tryz.sizeOf4
  v4 := Tryz.zeroValue4
  t5 := Tryz.underlying5
  a5 := Tryz.isAgg5
  z5 := Tryz.sizeOf5
  v5 := Tryz.zeroValue5
  t9 := Tryz.underlying9
  a9 := Tryz.isAgg9
  z9 := Tryz.sizeOf9
  v9 := Tryz.zeroValue9
  t46 := Tryz.underlying180
  a46 := Tryz.isAgg180
  z46 := Tryz.sizeOf180
  v46 := Tryz.zeroValue180
  t51 := Tryz.underlying207
  a51 := Tryz.isAgg207
  z51 := Tryz.sizeOf207
  v51 := Tryz.zeroValue207
  t53 := Tryz.underlying209
  a53 := Tryz.isAgg209
  z53 := Tryz.sizeOf209
  v53 := Tryz.zeroValue209 }
theorem Tryz.bits_Len (x : Int) (w : World) (h0 : 0 ≤ x) (h1 : x ≤ 18446744073709551615) :
    Calls Tryz.prog 121 #[.int .u64 x] w fun e w' => e = .returned (.int .i64 (Lib.bitLen x.toNat)) ∧ w' = w := Any.bits_Len Tryz.lays125 x w h0 h1
def Tryz.lays129_ren : Go.Shelf.Ren := ⟨fun | 129 => 134 | n => n, fun | 53 => 209 | 3 => 3 | 4 => 4 | 46 => 180 | 5 => 5 | 9 => 9 | n => n, fun | n => n⟩
theorem Tryz.lays129 : Go.Proofs.Lays.n129 Tryz.prog Tryz.lays129_ren := {
  mixed := by kernel_rfl
  f129 := Tryz.func134.trans (congrArg some (by kernel_rfl))
  t3 := Tryz.underlying3
  a3 := Tryz.isAgg3
  z3 := Tryz.sizeOf3
  v3 := Tryz.zeroValue3
  t4 := Tryz.underlying4
  a4 := Tryz.isAgg4
  z4 := Tryz.sizeOf4
  v4 := Tryz.zeroValue4
  t5 := Tryz.underlying5
  a5 := Tryz.isAgg5
  z5 := Tryz.sizeOf5
  v5 := Tryz.zeroValue5
  t9 := Tryz.underlying9
  a9 := Tryz.isAgg9
  z9 := Tryz.sizeOf9
  v9 := Tryz.zeroValue9
  t46 := Tryz.underlying180
  a46 := Tryz.isAgg180
  z46 := Tryz.sizeOf180
  v46 := Tryz.zeroValue180
  t53 := Tryz.underlying209
  a53 := Tryz.isAgg209
  z53 := Tryz.sizeOf209
  v53 := Tryz.zeroValue209 }
theorem Tryz.bits_Len64 (x : Int) (w : World) (h0 : 0 ≤ x) (h1 : x ≤ 18446744073709551615) :
    Calls Tryz.prog 134 #[.int .u64 x] w fun e w' => e = .returned (.int .i64 (Lib.bitLen x.toNat)) ∧ w' = w := Any.bits_Len64 Tryz.lays129 x w h0 h1
def Tryz.lays189_ren : Go.Shelf.Ren := ⟨fun | 189 => 92 | 125 => 121 | 257 => 120 | 128 => 133 | 129 => 134 | 294 => 124 | 295 => 125 | 296 => 126 | 297 => 127 | 298 => 128 | 299 => 129 | 216 => 130 | 300 => 131 | 301 => 132 | 328 => 135 | 329 => 136 | 330 => 137 | 331 => 138 | 332 => 139 | 215 => 140 | 343 => 141 | n => n, fun | 28 => 22 | 3 => 3 | 46 => 180 | 0 => 0 | 51 => 207 | 53 => 209 | 4 => 4 | 183 => 200 | 182 => 199 | 131 => 83 | 5 => 5 | 9 => 9 | 218 => 210 | 222 => 117 | 228 => 216 | 229 => 217 | n => n, fun | n => n⟩
theorem Tryz.lays189 : Go.Proofs.Lays.n189 Tryz.prog Tryz.lays189_ren := {
  mixed := by kernel_rfl
  f125 := Tryz.func121.trans (congrArg some (by kernel_rfl))
  f128 := Tryz.func133.trans (congrArg some (by kernel_rfl))
  f129 := Tryz.func134.trans (congrArg some (by kernel_rfl))
  f189 := Tryz.func92.trans (congrArg some (by kernel_rfl))
  f215 := Tryz.func140.trans (congrArg some (by kernel_rfl))
  f216 := Tryz.func130.trans (congrArg some (by kernel_rfl))
  f257 := Tryz.func120.trans (congrArg some (by kernel_rfl))
  f294 := Tryz.func124.trans (congrArg some (by kernel_rfl))
  f295 := Tryz.func125.trans (congrArg some (by kernel_rfl))
  f296 := Tryz.func126.trans (congrArg some (by kernel_rfl))
  f297 := Tryz.func127.trans (congrArg some (by kernel_rfl))
  f298 := Tryz.func128.trans (congrArg some (by kernel_rfl))
  f299 := Tryz.func129.trans (congrArg some (by kernel_rfl))
  f300 := Tryz.func131.trans (congrArg some (by kernel_rfl))
  f301 := Tryz.func132.trans (congrArg some (by kernel_rfl))
  f328 := Tryz.func135.trans (congrArg some (by kernel_rfl))
  f329 := Tryz.func136.trans (congrArg some (by kernel_rfl))
  f330 := Tryz.func137.trans (congrArg some (by kernel_rfl))
  f331 := Tryz.func138.trans (congrArg some (by kernel_rfl))
  f332 := Tryz.func139.trans (congrArg some (by kernel_rfl))
  f343 := Tryz.func141.trans (congrArg some (by kernel_rfl))
  t0 := Tryz.underlying0
  a0 := Tryz.isAgg0
  z0 := Tryz.sizeOf0
  v0 := Tryz.zeroValue0
  t3 := Tryz.underlying3
  a3 := Tryz.isAgg3
  z3 := Tryz.sizeOf3
  v3 := Tryz.zeroValue3
  t4 := Tryz.underlying4
  a4 := Tryz.isAgg4
  z4 := Tryz.sizeOf4
  v4 := Tryz.zeroValue4
  t5 := Tryz.underlying5
  a5 := Tryz.isAgg5
  z5 := Tryz.sizeOf5
  v5 := Tryz.zeroValue5
  t9 := Tryz.underlying9
  a9 := Tryz.isAgg9
  z9 := Tryz.sizeOf9
  v9 := Tryz.zeroValue9
  t28 := Tryz.underlying22
  a28 := Tryz.isAgg22
  z28 := Tryz.sizeOf22
  v28 := Tryz.zeroValue22
  t46 := Tryz.underlying180
  a46 := Tryz.isAgg180
  z46 := Tryz.sizeOf180
  v46 := Tryz.zeroValue180
  t51 := Tryz.underlying207
  a51 := Tryz.isAgg207
  z51 := Tryz.sizeOf207
  v51 := Tryz.zeroValue207
  t53 := Tryz.underlying209
  a53 := Tryz.isAgg209
  z53 := Tryz.sizeOf209
  v53 := Tryz.zeroValue209
  t131 := Tryz.underlying83
  a131 := Tryz.isAgg83
  z131 := Tryz.sizeOf83
  v131 := Tryz.zeroValue83
  t182 := Tryz.underlying199
  a182 := Tryz.isAgg199
  z182 := Tryz.sizeOf199
  v182 := Tryz.zeroValue199
  t183 := Tryz.underlying200
  a183 := Tryz.isAgg200
  z183 := Tryz.sizeOf200
  v183 := Tryz.zeroValue200
  t218 := Tryz.underlying210
  a218 := Tryz.isAgg210
  z218 := Tryz.sizeOf210
  v218 := Tryz.zeroValue210
  t222 := Tryz.underlying117
  a222 := Tryz.isAgg117
  z222 := Tryz.sizeOf117
  v222 := Tryz.zeroValue117
  t228 := Tryz.underlying216
  a228 := Tryz.isAgg216
  z228 := Tryz.sizeOf216
  v228 := Tryz.zeroValue216
  t229 := Tryz.underlying217
  a229 := Tryz.isAgg217
  z229 := Tryz.sizeOf217
  v229 := Tryz.zeroValue217 }
open Go.Sort Go.RowKit in
theorem Tryz.slices_Sort_int (blk off cap : Nat) (zs : List Int) (w : World) (hH : Holds (Value.int .i64) w blk off zs.toArray) (hblk : blk < w.heap.size) (hsz : zs.length < 4611686018427387904) :
    Calls Tryz.prog 92 #[.slice (some ⟨blk, off, none⟩) zs.length cap] w fun e w' =>
      e = .returned (.tuple #[]) ∧ ∃ n os, w' = grow (putRow (Value.int .i64) (Sort.ahead w n) blk off (zs.mergeSort fun x y => decide (x ≤ y)).toArray) os := Any.slices_Sort_int Tryz.lays189 blk off cap zs w hH hblk hsz
end Go.Proofs
/- slices.Sort of a list of numbers that is the call's own. -/
namespace Go.Proofs.YtpcndfffljmajaaGreatDoor
open Go.RowKit Go.Maps
/-- slices.Sort of a list of the call's own. -/
theorem sortI_any (w : World) (B g cap : Nat) (zs : List Int) (h : OwnI w B (.slice (some ⟨g, 0, none⟩) zs.length cap) zs) (hn : zs.length ≤ 1000000) :
    Calls Tryz.prog 92 #[.slice (some ⟨g, 0, none⟩) zs.length cap] w fun e w' => e = .returned (.tuple #[]) ∧ OwnI w' B (.slice (some ⟨g, 0, none⟩) zs.length cap) (zs.mergeSort fun x y => decide (x ≤ y)) ∧ w.grownBy w' (some g) := by
  rcases h.2 with ⟨e, _⟩ | ⟨g', cap', cur, e, hg, hb, hc, hm, hs, ht⟩
  · cases e
  injection e with e1 e2 e3
  have e4 := Option.some.inj e1
  injection e4 with e5
  subst e5; subst e3
  rw [Nat.mul_one] at ht
  refine (Tryz.slices_Sort_int g 0 cap zs w (holds_of_blockI hb ht) (t_lt hb) (by omega)).mono ?_
  rintro r w' ⟨rfl, n, os, rfl⟩
  have hl : (zs.mergeSort fun x y => decide (x ≤ y)).length = zs.length := List.length_mergeSort _
  refine ⟨rfl, ?_, grownBy_sortedI _⟩
  have := ownsRow_sortedI (n := n) (os := os) hl hg hb hc hm hs
  unfold OwnI
  rw [hl]
  exact this
theorem sort_perm (zs : List Int) : (zs.mergeSort fun x y => decide (x ≤ y)).Perm zs := List.mergeSort_perm _ _
theorem sort_rise (zs : List Int) : (zs.mergeSort fun x y => decide (x ≤ y)).Pairwise (· ≤ ·) := by
  have h := List.pairwise_mergeSort (le := fun x y : Int => decide (x ≤ y)) (fun a b c h1 h2 => by simp at *; omega) (fun a b => by simp; omega) zs
  exact h.imp fun h => by simpa using h
end Go.Proofs.YtpcndfffljmajaaGreatDoor
/- refine: a block's elements, rising. -/
namespace Go.Proofs.YtpcndfffljmajaaGreatDoor
open Go.RowKit Go.Maps
attribute [local go_sem ↓] Go.wp_at_zero Go.wp_at_succ
/-- A block's elements, rising. -/
def Pst.mem (s : Pst) (b : Nat) : List Int := ((List.range s.n).filter fun e => decide (s.O e = b)).map fun e : Nat => (e : Int)
/-- A block's elements as they stand. -/
def Pst.room (s : Pst) (b : Nat) : List Int := (List.range (s.D b - s.B b)).map fun j : Nat => (s.E (s.B b + j) : Int)
theorem room_len (s : Pst) (b : Nat) : (s.room b).length = s.D b - s.B b := by simp [Pst.room]
theorem room_at (s : Pst) (b : Nat) {j : Nat} (hj : j < s.D b - s.B b) : (s.room b)[j]? = some (s.E (s.B b + j) : Int) := by simp [Pst.room, hj]
theorem mem_mem {s : Pst} {b : Nat} {z : Int} : z ∈ s.mem b ↔ ∃ e : Nat, e < s.n ∧ s.O e = b ∧ z = e := by
  simp only [Pst.mem, List.mem_map, List.mem_filter, List.mem_range, decide_eq_true_eq]
  exact ⟨fun ⟨e, ⟨h1, h2⟩, h3⟩ => ⟨e, h1, h2, h3.symm⟩, fun ⟨e, h1, h2, h3⟩ => ⟨e, ⟨h1, h2⟩, h3.symm⟩⟩
theorem mem_rise (s : Pst) (b : Nat) : (s.mem b).Pairwise (· < ·) := by
  unfold Pst.mem
  rw [List.pairwise_map]
  exact (List.pairwise_lt_range.filter _).imp fun h => by omega
theorem room_perm {s : Pst} (hO : s.Ok) {b : Nat} (hb : b < s.nb) : (s.room b).Perm (s.mem b) := by
  have v := hO.iv b hb
  refine (List.perm_ext_iff_of_nodup ?_ ((mem_rise s b).imp fun h => by omega)).2 fun z => ?_
  · unfold Pst.room
    refine List.pairwise_map.2 (List.Pairwise.imp_of_mem (fun {x y} hx hy h => ?_) List.pairwise_lt_range)
    intro h2
    rw [List.mem_range] at hx hy
    have h3 : s.E (s.B b + x) = s.E (s.B b + y) := by omega
    have h4 := (hO.ep (s.B b + x) (by omega)).2
    have h5 := (hO.ep (s.B b + y) (by omega)).2
    rw [h3, h5] at h4
    omega
  · rw [mem_mem]
    unfold Pst.room
    simp only [List.mem_map, List.mem_range]
    constructor
    · rintro ⟨j, hj, rfl⟩
      exact ⟨s.E (s.B b + j), (hO.ep _ (by omega)).1, hO.ow b hb _ (by omega) (by omega), rfl⟩
    · rintro ⟨e, he, ho, rfl⟩
      obtain ⟨o1, o2, o3⟩ := hO.o e he
      rw [ho] at o2 o3
      exact ⟨s.P e - s.B b, by omega, by rw [show s.B b + (s.P e - s.B b) = s.P e by omega, (hO.pe e he).2]⟩
theorem room_sort {s : Pst} (hO : s.Ok) {b : Nat} (hb : b < s.nb) : ((s.room b).mergeSort fun x y => decide (x ≤ y)) = s.mem b :=
  List.Perm.eq_of_pairwise (le := fun a b => a ≤ b) (fun a b _ _ h1 h2 => by omega) (sort_rise _) ((mem_rise s b).imp fun h => by omega) ((sort_perm _).trans (room_perm hO hb))
theorem mem_len {s : Pst} (hO : s.Ok) {b : Nat} (hb : b < s.nb) : (s.mem b).length = s.D b - s.B b := by rw [← (room_perm hO hb).length_eq, room_len]
theorem Tryz.eqClI (w : World) (a : Option Addr) (n c n' c' : Nat) : (binOp .eql 22 (.slice a n c) (.slice none n' c')).run Tryz.prog w = .ok (.bool a.isNone) w := Lib.run_eql_slice_nil w _ _ a n c n' c' Tryz.underlying22
set_option maxRecDepth 100000 in
set_option maxHeartbeats 1000000 in
/-- slices.Clone of numbers that lie in memory. -/
theorem cloneI_any (a : Addr) (cap : Nat) (zs : List Int) (w : World) (h0 : 0 < zs.length) (hn : zs.length ≤ 1000000) (hv : ∀ j u, (iC zs)[j]? = some u → w.cell? (a.add j) = some u) :
    Calls Tryz.prog 91 #[.slice (some a) zs.length cap] w fun r w' => ∃ g k, r = .returned (.slice (some ⟨g, 0, none⟩) zs.length k) ∧ OwnI w' w.heap.size (.slice (some ⟨g, 0, none⟩) zs.length k) zs ∧ Below w.heap.size w w' ∧ w.heap.size ≤ g := by
  obtain ⟨i0, hi0, hz0, hz1, hz2⟩ := info_parts Tryz.infoI4
  have hq := Tryz.eqClI
  have hl : (iC zs).length = zs.length := by simp [iC]
  obtain ⟨n, hN⟩ : ∃ n, n = zs.length := ⟨_, rfl⟩
  have A : Aside (∀ j u, (iC zs)[j]? = some u → w.cell? (a.add j) = some u) := hv
  have HN : Hid (n = zs.length ∧ 0 < zs.length) := ⟨hN, h0⟩
  rw [← hN] at hn hl ⊢
  clear hv hN h0
  go_enter Tryz.func91, Tryz.ntmps91
  go_wp2_with (at_builtin; refine wpList_append_own _ rfl _ _ 22 rfl w.heap.size 3 i0 (.int .i64 0) 1 8 Tryz.underlying22 hi0 hz0 hz1 hz2 rfl (by decide) _ _ _ rfl (World.ownsRow_made w #[] 0 (Nat.le_refl _) (Nat.zero_le _) (by simp)) a n cap (iC zs) rfl ?qc1 ?qc2 ?qc3 ?qc4 ?qc5 ?qc6 ?_)
  case qc1 => omega
  case qc2 =>
    intro j u hj
    have h1 := A.out j u hj
    exact (((Below.refl _ w).alloc (Nat.le_refl _) _).cell (World.block_lt_of_cell? w _ h1)).trans h1
  case qc3 => exact iC_one zs
  case qc4 => unfold maxLen; omega
  case qc5 => omega
  case qc6 => simp
  intro v' w1 hown hgrow hnil
  go_wp2
  go_ret
  have h1 : OwnI w1 w.heap.size v' zs := by
    have h1 := hown
    rw [HN.out.1] at h1
    unfold OwnI
    simpa using h1
  have hb : Below w.heap.size w w1 := ((Below.refl _ w).alloc (Nat.le_refl _) _).grown hgrow (by simp) (by intro k hk; simp [Value.ownBlock] at hk; omega)
  rcases h1.2 with ⟨rfl, h0⟩ | ⟨g, k, cur, rfl, hg, h3⟩
  · have := HN.out.2; omega
  · rw [HN.out.1]
    exact ⟨g, k, rfl, h1, hb, hg⟩
end Go.Proofs.YtpcndfffljmajaaGreatDoor
/- refine: Members. -/
namespace Go.Proofs.YtpcndfffljmajaaGreatDoor
open Go.RowKit Go.Maps
attribute [local go_sem ↓] Go.wp_at_zero Go.wp_at_succ
theorem rgu2 {w2 wa wb : World} {a0 a1 : Addr} {x0 x1 : Value} (hb : Below wa.heap.size wa wb) (h : (wa.cell? a0 = some x0 ∧ wa.cell? a1 = some x1) ∧ Hid (Below w2.heap.size w2 wa)) : (wb.cell? a0 = some x0 ∧ wb.cell? a1 = some x1) ∧ Hid (Below w2.heap.size w2 wb) :=
  ⟨⟨cellu h.1.1 hb, cellu h.1.2 hb⟩, (h.2.out.trans (hb.mono h.2.out.size) : Below w2.heap.size w2 wb)⟩
set_option maxRecDepth 100000 in
set_option maxHeartbeats 4000000 in
theorem members_ok (g : Nat) (c : Nat → Int) (s : Pst) (b : Nat) (w0 w : World) (hP : Pt w0 w g c) (hL : Lay c s) (hO : s.Ok) (hb : b < s.nb) :
    Calls Tryz.prog 28 #[.pointer (some ⟨g, 0, none⟩), .int .i64 b] w fun r w' => ∃ u, r = .returned (.tuple #[u, .nilIface]) ∧ OwnI w' w.heap.size u (s.mem b) ∧ Below w.heap.size w w' := by
  obtain ⟨v1, v2, v3, v4⟩ := hO.iv b hb
  have hn := hO.n1
  have hf := hO.few
  have hS := blocks_any g c w0 w hP
  rw [hL.nb] at hS
  have hl := lacks_ok g b s.nb w (by omega) (by omega)
  have c0 := hP.cell (i := 3002 + b * 3) (by omega)
  rw [hL.b b hb] at c0
  have c2 := hP.cell (i := 3002 + b * 3 + 2) (by omega)
  rw [hL.d b hb] at c2
  have e0 : (0 : Int) ≤ (b : Int) := by omega
  have e1 : (b : Int) < 1000 := by omega
  have hPa := fun W => part_any g (s.B b) (s.D b) v3 (by omega) W
  have hCl : ∀ W, Pt w0 W g c → Calls Tryz.prog 91 #[.slice (some ⟨g, 2 + s.B b, none⟩) (s.D b - s.B b) (s.D b - s.B b)] W fun r w' => ∃ h k, r = .returned (.slice (some ⟨h, 0, none⟩) (s.D b - s.B b) k) ∧ OwnI w' W.heap.size (.slice (some ⟨h, 0, none⟩) (s.D b - s.B b) k) (s.room b) ∧ Below W.heap.size W w' ∧ W.heap.size ≤ h := fun W hW => by
    have h := cloneI_any ⟨g, 2 + s.B b, none⟩ (s.D b - s.B b) (s.room b) W (by rw [room_len]; omega) (by rw [room_len]; omega) (fun j u hj => by
      unfold iC at hj
      rw [List.getElem?_map] at hj
      obtain ⟨z, hz, rfl⟩ := Option.map_eq_some_iff.1 hj
      have hj2 : j < s.D b - s.B b := by rw [← room_len]; exact (List.getElem?_eq_some_iff.1 hz).1
      rw [room_at s b hj2] at hz
      have h3 := hW.cell (i := 2 + (s.B b + j)) (by omega)
      rw [hL.e _ (by omega)] at h3
      obtain rfl := Option.some.inj hz
      rw [← Nat.add_assoc] at h3
      have h4 : (⟨g, 2 + s.B b, none⟩ : Addr).add j = ⟨g, 2 + s.B b + j, none⟩ := by simp [Addr.add]
      rw [h4]
      exact h3)
    rw [room_len] at h
    exact h
  have hSo : ∀ (W : World) (B h k : Nat), OwnI W B (.slice (some ⟨h, 0, none⟩) (s.D b - s.B b) k) (s.room b) → Calls Tryz.prog 92 #[.slice (some ⟨h, 0, none⟩) (s.D b - s.B b) k] W fun e w' => e = .returned (.tuple #[]) ∧ OwnI w' B (.slice (some ⟨h, 0, none⟩) (s.D b - s.B b) k) (s.mem b) ∧ W.grownBy w' (some h) := fun W B h k hW => by
    have h1 := sortI_any W B h k (s.room b) (by rw [room_len]; exact hW) (by rw [room_len]; omega)
    rw [room_len, room_sort hO hb] at h1
    exact h1
  have HPt : Hid (Pt w0 w g c) := hP
  have H : Hid _ := And.intro hS (And.intro hl (And.intro hPa (And.intro hCl hSo)))
  clear hS hl hPa hCl hSo hP hL hn hf hb v1 v2 v3 v4
  generalize s.room b = rm at H
  generalize s.mem b = mm at H ⊢
  generalize s.D b - s.B b = n at H
  generalize s.B b = B at *
  generalize s.D b = D at *
  generalize s.nb = nb at H
  clear hO
  go_enter Tryz.func28, Tryz.ntmps28
  go_upto_region 4 with (first
    | (go_at_call 18; refine Calls.mono H.out.1 ?_; rintro r w1 ⟨rfl, hw1⟩; obtain rfl := hw1.symm; clear hw1)
    | (go_at_call 82; refine Calls.mono H.out.2.1 ?_; rintro r w1 ⟨rfl, hw1⟩; obtain rfl := hw1.symm; clear hw1))
  go_region_held3 (fun w' => (w'.cell? ⟨g, 3002 + b * 3, none⟩ = some (.int .i64 B) ∧ w'.cell? ⟨g, 3002 + b * 3 + 2, none⟩ = some (.int .i64 D)) ∧ Hid (Below w.heap.size w w')) (first | exact rgu2 hb5 (by assumption) | exact ⟨⟨c0, c2⟩, ((Below.refl _ _).drew : Below w.heap.size w w.drew)⟩ | go_keep)
    ((first
      | (go_at_call 86; refine Calls.mono (H.out.2.2.1 _) ?_; rintro r w5 ⟨rfl, hw5⟩; obtain rfl := hw5.symm; clear hw5)
      | (go_at_call 91; refine Calls.mono (H.out.2.2.2.1 _ (HPt.out.below (rgb3 (by assumption)))) ?_; rintro r w5 ⟨h, k, rfl, hO5, hb5, hh5⟩)
      | fail))
  have hbw : Below w.heap.size w w5 := rgb3 (by assumption)
  have HB : Hid (OwnI w5 w.heap.size (.slice (some ⟨h, 0, none⟩) n k) rm ∧ Below w.heap.size w w5 ∧ w.heap.size ≤ h) := ⟨hO5, hbw, hh5⟩
  rename_i hS3
  clear hS3 hO5 hb5 hh5 hbw
  go_wp2_with (go_at_call 92; refine Calls.mono (H.out.2.2.2.2 w5 w.heap.size h k HB.out.1) ?_; rintro r w6 ⟨rfl, hO6, hg6⟩; have H6 : Hid _ := And.intro hO6 (HB.out.2.1.grown hg6 HB.out.2.1.size (by intro q hq; obtain rfl := Option.some.inj hq; exact HB.out.2.2)); clear hO6 hg6)
  go_ret2
  exact ⟨_, rfl, H6.out.1, H6.out.2⟩
set_option maxHeartbeats 1000000 in
theorem members_bad (g : Nat) (c : Nat → Int) (s : Pst) (b : Int) (a1 a3 : Addr) (w0 w : World) (hP : Pt w0 w g c) (hL : Lay c s) (hE : EnvR w a1 a3) (h : b < 0 ∨ (s.nb : Int) ≤ b) :
    Calls Tryz.prog 28 #[.pointer (some ⟨g, 0, none⟩), .int .i64 b] w fun r w' => ∃ x, r = .returned (.tuple #[.slice none 0 0, x]) ∧ Chain w' 0 0 a3 [refB] x ∧ Below w.heap.size w w' := by
  have hS := blocks_any g c w0 w hP
  rw [hL.nb] at hS
  have hl := lacks_bad g b s.nb a1 a3 w hE h
  generalize s.nb = n at hS hl
  have H : Hid _ := And.intro hS hl
  clear hS hl hP hL hE h
  go_enter Tryz.func28, Tryz.ntmps28
  go_wp2_with (first
    | (go_at_call 18; refine Calls.mono H.out.1 ?_; rintro r w1 ⟨rfl, hw1⟩; obtain rfl := hw1.symm; clear hw1)
    | (go_at_call 82; refine Calls.mono H.out.2 ?_; rintro r w1 ⟨x, rfl, hC, hb⟩; have HB : Hid _ := And.intro hC hb; obtain ⟨T, v, rfl⟩ := hC.iface; clear hC hb))
  go_ret2
  exact ⟨_, rfl, HB.out.1, HB.out.2⟩
end Go.Proofs.YtpcndfffljmajaaGreatDoor
