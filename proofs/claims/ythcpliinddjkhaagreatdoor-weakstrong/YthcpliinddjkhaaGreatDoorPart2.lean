/- Texts of this claim, joined: WkSil, WkTab, WkTot, BrTz, RoLoop, BrAll, WkMark, BrCol. -/
import Derived.Test.YthcpliinddjkhaaGreatDoorPart1
import Derived.BigQuiet
import Derived.Deep.RegionHeld3
import Derived.Test.YthcpliinddjkhaaGreatDoorPart0
import Derived.RangeFuncNested
import Derived.RangeFuncBound
import Derived.RangeFuncCalls
import Derived.RangeFuncLeaves
import Derived.RangeFuncBox
import Derived.RangeFuncWrites
import Derived.Shelf.Abstract
import Derived.Shelf.RegionOpen
import Derived.WalkKit
import Derived.OwnWalkIn
import Derived.TacticsInMore
import Derived.LoopNIn
import Derived.LoopIn
import Derived.Maps.AppendAt
namespace Go.Proofs.YthcpliinddjkhaaGreatDoor
section
open Go.RowKit Go.Maps
attribute [local go_sem ↓] Go.wp_at_zero Go.wp_at_succ
theorem cell_kept9 {w w' : World} {F : Nat -> Prop} {b o : Nat} {v : Value} (hk : Kept F w w') (hc : w.cell? ⟨b, o, none⟩ = some v) (hb : ¬ F b) : w'.cell? ⟨b, o, none⟩ = some v := (World.cell?_of_block (a := ⟨b, o, none⟩) (hk.block b (World.block_lt_of_cell? w _ hc) hb)).trans hc
theorem wk_cells {w : World} {b : Nat} {x0 x1 x2 x3 : Value} {ty : TypeId} (h : w.heap[b]? = some (.cells #[x0, x1, x2, x3] ty (0, 0))) : w.cell? ⟨b, 0, none⟩ = some x0 /\ w.cell? ⟨b, 1, none⟩ = some x1 /\ w.cell? ⟨b, 2, none⟩ = some x2 /\ w.cell? ⟨b, 3, none⟩ = some x3 := ⟨cell0_of h rfl, cell0_of h rfl, cell0_of h rfl, cell0_of h rfl⟩
theorem wk_bel {w W w8 : World} (hb : Below W.heap.size W w8) (h : Below w.heap.size w W) : Below w.heap.size w w8 := h.trans (hb.mono h.size)
theorem wk_res {W w8 : World} {b : Nat} {o : Obj} (hb : Below W.heap.size W w8) (h : W.heap[b]? = some o) : w8.heap[b]? = some o := (hb.block b (t_lt h)).trans h
theorem rowAt_drewN {w : World} {b o d : Nat} {S : Nat -> Bool} (h : RowAt w b o d S) (k : Nat) : RowAt (w.drewN k) b o d S := h.below (below_drewN (Below.refl _ _) k)
theorem lt_wds {q m : Nat} (h : q < m) : q / 64 < Br.wds m := by unfold Br.wds; omega
def Ad (g0 o d t : Nat) (Sf : Nat -> Bool) (wr w' : World) : Prop := ∃ R, RowAt w' g0 o d R /\ (∀ q, (R q || decide (q = t)) = (Sf q || decide (q = t))) /\ Wr g0 o d wr w'
theorem ad_drew {g0 o d t : Nat} {Sf : Nat -> Bool} {w5 w : World} (h : Ad g0 o d t Sf w5 w) : Hid (Ad g0 o d t Sf w5 w.drew) := by
 obtain ⟨R, h1, h2, h3⟩ := h
 exact (⟨R, h1, h2, h3.drew⟩ : Ad g0 o d t Sf w5 w.drew)
theorem ad_up {g0 o d t : Nat} {Sf : Nat -> Bool} {w5 wa wb : World} {b0 b1 b2 b3 o0 o1 o2 o3 : Nat} {v0 v1 v2 v3 : Value} (hx : RowAt wb g0 o d fun q => Sf q || decide (q = t)) (hw : Wr g0 o d wa wb) (h5 : Wr g0 o d w5 wb) (n0 : g0 ≠ b0) (n1 : g0 ≠ b1) (n2 : g0 ≠ b2) (n3 : g0 ≠ b3)
 (h : (wa.cell? ⟨b0, o0, none⟩ = some v0 /\ wa.cell? ⟨b1, o1, none⟩ = some v1 /\ wa.cell? ⟨b2, o2, none⟩ = some v2 /\ wa.cell? ⟨b3, o3, none⟩ = some v3) /\ Hid (Ad g0 o d t Sf w5 wa)) :
 (wb.cell? ⟨b0, o0, none⟩ = some v0 /\ wb.cell? ⟨b1, o1, none⟩ = some v1 /\ wb.cell? ⟨b2, o2, none⟩ = some v2 /\ wb.cell? ⟨b3, o3, none⟩ = some v3) /\ Hid (Ad g0 o d t Sf w5 wb) :=
 ⟨⟨cell_kept9 hw.kp h.1.1 fun e => n0 e.symm, cell_kept9 hw.kp h.1.2.1 fun e => n1 e.symm, cell_kept9 hw.kp h.1.2.2.1 fun e => n2 e.symm, cell_kept9 hw.kp h.1.2.2.2 fun e => n3 e.symm⟩, (⟨_, hx, fun q => by simp, h5⟩ : Ad g0 o d t Sf w5 wb)⟩
theorem ad_h {g0 o d t : Nat} {Sf : Nat -> Bool} {w5 w : World} {P : Prop} (h : P /\ Hid (Ad g0 o d t Sf w5 w)) : Ad g0 o d t Sf w5 w := h.2.out
set_option maxRecDepth 100000 in
set_option maxHeartbeats 2000000 in
theorem sil1_any (g0 g1 n d p v k1 k2 : Nat) (Sp : Nat -> Bool) (w : World) (hd : d <= 10000) (hp : p < n) (hv : v / 64 < d) (c1 : w.cell? ⟨k1, 0, none⟩ = some (.slice (some ⟨g1, 0, none⟩) n n)) (c2 : w.cell? ⟨k2, 0, none⟩ = some (.int .i64 v)) (c3 : w.cell? ⟨g1, p, none⟩ = some (.slice (some ⟨g0, p * d, none⟩) d d)) (hR : RowAt w g0 (p * d) d Sp) :
 Calls Tryz.prog 101 #[.int .i64 p, .pointer (some ⟨k1, 0, none⟩), .pointer (some ⟨k2, 0, none⟩)] w fun r w' => r = .returned (.bool (Sp v)) /\ Below w.heap.size w w' := by
 have hH := fun k => hasRow_any g0 (p * d) d d v Sp (w.drewN k) hd hv (rowAt_drewN hR k)
 unfold rowV at hH
 have HH : Hid _ := And.intro hH trivial
 have q0 : (0 : Int) <= (p : Int) := by omega
 have q1 : (p : Int) < (n : Int) := by omega
 clear hH hR
 go_enter Tryz.func101, Tryz.ntmps101
 go_upto_region 1 with fail
 go_quiet ((go_at_call 102; exact (HH.out.1 _).mono fun _ _ ⟨he, hw⟩ => ⟨he, _, hw⟩))
 go_wp2_with fail
 go_ret
 exact ⟨rfl, below_drewN (Below.refl _ _) _⟩
theorem tau_step {es : List Sy.Ed} {j : Nat} {e : Sy.Ed} (he : es[j]? = some e) (p q : Nat) : Wk.tau (es.take (j + 1)) p q = (Wk.tau (es.take j) p q || (e.2.1 == 0 && (e.1 == (p : Int) && e.2.2 == (q : Int)))) := by
 unfold Wk.tau
 rw [List.take_add_one, he]
 simp [List.any_append]
def s0 (es : List Sy.Ed) (j : Nat) : Nat -> Nat -> Bool := fun p q => p == q || Wk.tau (es.take j) p q
set_option maxRecDepth 100000 in
set_option maxHeartbeats 16000000 in
theorem silentOf_ok (m kk : Nat) (s : Int) (v : Value) (es : List Sy.Ed) (a : Addr) (w : World) (hA : Sent w 11 a) (hv : BEdges.Has w v es) (hq : Sy.right m kk s es = true) (hn : m <= 300) :
 Calls Tryz.prog 33 #[sysV m kk s v] w fun r w' => ∃ g0 g1, r = .returned (.tuple #[.slice (some ⟨g1, 0, none⟩) m m, .nilIface]) /\ Rws w' w.heap.size g1 m (Br.wds m) (rl g0 (Br.wds m)) (Wk.sil es m) /\ (w.heap.size <= g0 /\ g0 < w'.heap.size) /\ Below w.heap.size w w' := by
 have hv0 := hv
 obtain ⟨ao, cap, rfl, _⟩ := hv0
 have hI := Wk.in_right hq
 obtain ⟨L, hL⟩ : ∃ L, L = es.length := ⟨_, rfl⟩
 obtain ⟨w1, hw1⟩ : ∃ w1, w1 = w.alloc (.cells #[.int .i64 m, .int .i64 kk, .int .i64 s, .slice ao L cap] 24) := ⟨_, rfl⟩
 have hb1 : Below w.heap.size w w1 := by rw [hw1]; exact (Below.refl _ _).alloc (Nat.le_refl _) _
 have hg1 : w1.heap[w.heap.size]? = some (.cells #[.int .i64 m, .int .i64 kk, .int .i64 s, .slice ao L cap] 24 (0, 0)) := by rw [hw1]; exact heap_alloc_new w _
 have hC := check_any m kk s (.slice ao es.length cap) es a w1 (hA.below hb1) (hv.below hb1)
 rw [hq, <- hL] at hC
 obtain ⟨d, hd⟩ : ∃ d, d = Br.wds m := ⟨_, rfl⟩
 have hSv := fun W => several_any m m (by omega) (by omega) (by omega) W
 have hlen : L <= 10000 := by rw [hL]; unfold Sy.right at hq; simp only [Bool.and_eq_true, decide_eq_true_eq] at hq; exact hq.1.1.2.2.2.2
 have hvL := hv.below hb1
 rw [<- hd] at hSv ⊢
 rw [<- hL] at hvL ⊢
 unfold sysV at hC ⊢
 have hm3 : ¬ (300 : Int) < (m : Int) := by omega
 have hdd : d <= 10000 := by rw [hd]; unfold Br.wds; omega
 have HD : Hid (d = Br.wds m /\ L = es.length /\ m <= 300) := ⟨hd, hL, hn⟩
 have H1 : Hid _ := And.intro hw1 (And.intro hb1 (And.intro hg1 (And.intro hC (And.intro hSv (And.intro hvL hI)))))
 obtain ⟨x0, x1, x2, x3⟩ := wk_cells hg1
 clear hA hv hL hw1 hb1 hg1 hC hSv hvL hq hn hd hI
 go_enter Tryz.func33, Tryz.ntmps33
 go_upto_region 1 with fail
 rw [<- H1.out.1]
 go_wp2_with fail
 refine Calls.mono H1.out.2.2.2.1 ?_
 rintro r w2 ⟨x, rfl, hx, hb2⟩
 have hx2 : x = .nilIface := hx
 subst hx2
 have H2 : Hid (Below w1.heap.size w1 w2) := hb2
 have hg2 := wk_res hb2 H1.out.2.2.1
 clear hx hb2 x0 x1 x2 x3
 obtain ⟨x0, x1, x2, x3⟩ := wk_cells hg2
 clear hg2
 go_wp2_with fail
 refine Calls.mono (H1.out.2.2.2.2.1 _) ?_
 rintro r w3 ⟨g0, g1, rfl, hgn, hSev⟩
 have hRw := sev_rws hSev
 have hg0 : w2.heap.size <= g0 /\ g0 < w3.heap.size := by
  obtain ⟨cs, hc, _⟩ := hSev.wd
  exact ⟨hSev.u0, t_lt hc⟩
 obtain ⟨w4, hw4⟩ : ∃ w4, w4 = w3.alloc (.cells #[.slice (some ⟨g1, 0, none⟩) m m] 78) := ⟨_, rfl⟩
 have hb4 : Below w3.heap.size w3 w4 := by rw [hw4]; exact (Below.refl _ _).alloc (Nat.le_refl _) _
 have hc4 : w4.cell? ⟨w3.heap.size, 0, none⟩ = some (.slice (some ⟨g1, 0, none⟩) m m) := by rw [hw4]; exact cell0_of (heap_alloc_new w3 _) rfl
 have hb14 : Below w1.heap.size w1 w4 := wk_bel hb4 (wk_bel hSev.bl H2.out)
 have hx3 := (wk_cells (wk_res hb14 H1.out.2.2.1)).2.2.2
 have hz2 : w.heap.size < w2.heap.size := by have := t_lt H1.out.2.2.1; have := H2.out.size; omega
 have H3 : Hid _ := And.intro hb14 (And.intro (hRw.below hb4) (And.intro hgn (And.intro hg0 (And.intro hz2 (And.intro hc4 hx3)))))
 have hfr : ∀ wr, Kept (fun b => b = g0) w4 wr -> wr.cell? ⟨w3.heap.size, 0, none⟩ = some (.slice (some ⟨g1, 0, none⟩) m m) /\ wr.cell? ⟨w.heap.size, 3, none⟩ = some (.slice ao L cap) /\ Below w1.heap.size w1 wr := fun wr hK => ⟨cell_kept9 hK hc4 (by omega), cell_kept9 hK hx3 (by omega), hb14.trans (hK.below hb14.size fun k hk => by have := H2.out.size; omega)⟩
 have HF : Hid _ := hfr
 have HZ4 : Hid (w3.heap.size <= w4.heap.size) := hb4.size
 clear hSev hRw hgn hg0 hb4 hc4 hb14 hx3 hz2 hfr x0 x1 x2 x3
 go_upto_region 7 with fail
 rw [<- hw4]
 have HW4 : Hid _ := hw4
 clear hw4
 have y5 := (HF.out w4 (Kept.refl _ _)).1
 go_wp2_with fail
 go_loopg [30] m (fun z iv wr => ∃ i : Nat, z = m - i /\ i <= m /\ iv = .int .i64 i /\ Rws wr w2.heap.size g1 m d (rl g0 d) (fun p q => decide (p < i) && p == q) /\ Kept (fun b => b = g0) w4 wr)
 case atStart => exact ⟨0, rfl, Nat.zero_le _, rfl, H3.out.2.1.congr fun p q _ _ => by simp, Kept.refl _ _⟩
 case round =>
  obtain ⟨i, rfl, hi, rfl, hR, hK⟩ := hrel
  clear y5
  by_cases hlt : i < m
  ·have q0 : (0 : Int) <= (i : Int) := by omega
   have q1 : (i : Int) < (m : Int) := by omega
   have c0 := hR.lst.cell hlt
   unfold rl Lc.v rowV at c0
   simp only at c0
   have hAd := addRow_any g0 (i * d) d d i (fun q => decide (i < i) && i == q) wr hdd (by rw [HD.out.1]; exact lt_wds hlt) (hR.row i hlt)
   unfold rowV at hAd
   have HA : Hid _ := And.intro hR (And.intro hK hAd)
   clear hR hK hAd
   go_wp2_with fail
   refine Calls.mono HA.out.2.2 ?_
   rintro r w5 ⟨⟨vr, rfl⟩, hx, hw⟩
   have H5 : Hid _ := And.intro hx hw
   clear hx hw
   go_wp2_with fail
   have hmm : m <= 300 := HD.out.2.2
   go_roundg (m - (i + 1))
   case measure => omega
   case rel =>
    refine ⟨i + 1, rfl, by omega, by go_num, upm_congr (HA.out.1.put hlt H5.out.2 H5.out.1 fun q hq e => rl_off e) fun p q hp hq => ?_, HA.out.2.1.trans H5.out.2.kp⟩
    by_cases e : p = i
    ·subst e
     rw [if_pos rfl]
     by_cases e2 : q = p
     ·subst e2; simp
     ·simp [e2]; omega
    ·rw [if_neg e]
     have : decide (p < i + 1) = decide (p < i) := by simp only [decide_eq_decide]; omega
     rw [this]
  ·obtain rfl : m = i := by omega
   have q1 : ¬ (m : Int) < (m : Int) := by omega
   have x3 := (HF.out wr hK).2.1
   have HB : Hid _ := And.intro hR hK
   clear hR hK
   go_wp2_with fail
   go_loopg [42] L (fun z jv wr => ∃ j : Nat, z = L - j /\ j <= L /\ jv = .int .i64 j /\ Rws wr w2.heap.size g1 m d (rl g0 d) (s0 es j) /\ Kept (fun b => b = g0) w4 wr)
   case atStart => exact ⟨0, rfl, Nat.zero_le _, rfl, HB.out.1.congr fun p q hp _ => by simp [s0, Wk.tau, hp], HB.out.2⟩
   case round =>
    obtain ⟨j, rfl, hj, rfl, hR, hK⟩ := hrel
    clear x3
    obtain ⟨wo, rfl⟩ : ∃ wo, wo = wr := ⟨_, rfl⟩
    obtain ⟨y5, _, hbw⟩ := HF.out wo hK
    by_cases hlt : j < L
    ·have q0 : (0 : Int) <= (j : Int) := by omega
     have q2 : (j : Int) < (L : Int) := by omega
     obtain ⟨z, hz⟩ : ∃ z, es[j]? = some z := ⟨es[j]'(by have := HD.out.2.1; omega), List.getElem?_eq_getElem _⟩
     obtain ⟨a9, rfl, d0, d1, d2⟩ := edge_at (H1.out.2.2.2.2.2.1.below hbw) hz
     obtain ⟨f, l, g⟩ := z
     have hrg := H1.out.2.2.2.2.2.2 _ (List.mem_of_getElem? hz)
     simp only at d0 d1 d2 hrg
     obtain ⟨fn, rfl⟩ : ∃ fn : Nat, f = (fn : Int) := ⟨f.toNat, by omega⟩
     obtain ⟨tn, rfl⟩ : ∃ tn : Nat, g = (tn : Int) := ⟨g.toNat, by omega⟩
     have hfm : fn < m := by omega
     have htm : tn < m := by omega
     have HZ : Hid _ := hz
     clear hz hrg hbw
     by_cases hl : l = 0
     ·subst hl
      go_upto_region 15 with fail
      obtain ⟨w5, hw5⟩ : ∃ w5, w5 = wo.alloc (.cells #[.int .i64 fn, .int .i64 0, .int .i64 tn] 70) := ⟨_, rfl⟩
      have hb5 : Below wo.heap.size wo w5 := by rw [hw5]; exact (Below.refl _ _).alloc (Nat.le_refl _) _
      have hg5 : w5.heap[wo.heap.size]? = some (.cells #[.int .i64 fn, .int .i64 0, .int .i64 tn] 70 (0, 0)) := by rw [hw5]; exact heap_alloc_new wo _
      rw [<- hw5]
      have z0 : w5.cell? ⟨wo.heap.size, 0, none⟩ = some (.int .i64 fn) := cell0_of hg5 rfl
      have z1 : w5.cell? ⟨wo.heap.size, 1, none⟩ = some (.int .i64 0) := cell0_of hg5 rfl
      have z2 : w5.cell? ⟨wo.heap.size, 2, none⟩ = some (.int .i64 tn) := cell0_of hg5 rfl
      have y6 := cell_up y5 hb5
      have hR5 := hR.below hb5
      have c0 := hR5.lst.cell hfm
      unfold rl Lc.v rowV at c0
      simp only at c0
      have hne : g0 ≠ wo.heap.size /\ g0 ≠ w3.heap.size /\ g0 ≠ g1 := ⟨by have := (hR.row fn hfm).lt; unfold rl at this; simp only at this; omega, by have := H3.out.2.2.2.1; omega, H3.out.2.2.1⟩
      have hAd := fun (W : World) (h : Ad g0 (fn * d) d tn (s0 es j fn) w5 W) => (by
       obtain ⟨R, h1, h2, h3⟩ := h
       refine (addRow_any g0 (fn * d) d d tn R W hdd (by rw [HD.out.1]; exact lt_wds htm) h1).mono ?_
       rintro r w' ⟨hr, hx, hw⟩
       exact ⟨hr, (hx.congr fun q _ => h2 q : RowAt w' g0 (fn * d) d fun q => s0 es j fn q || decide (q = tn)), hw, h3.trans hw⟩ : Calls Tryz.prog 99 #[rowV g0 (fn * d) d d, .int .i64 tn] W fun r w' => (∃ v, r = .returned v) /\ RowAt w' g0 (fn * d) d (fun q => s0 es j fn q || decide (q = tn)) /\ Wr g0 (fn * d) d W w' /\ Wr g0 (fn * d) d w5 w')
      unfold rowV at hAd
      have HA : Hid _ := And.intro hR5 (And.intro (hK.trans (Kept.of_below hb5)) (And.intro hAd hne))
      have hAd0 : Ad g0 (fn * d) d tn (s0 es j fn) w5 w5 := ⟨_, hR5.row fn hfm, fun _ => rfl, Wr.refl _ _ _ _⟩
      have HAd0 : Hid _ := hAd0
      clear hR hK hAd hAd0 hR5 hb5 hg5 hw5 hne y5 d0 d1 d2
      go_upto_region 16 with fail
      go_region_held3 (fun w' => (w'.cell? ⟨w3.heap.size, 0, none⟩ = some (.slice (some ⟨g1, 0, none⟩) m m) /\ w'.cell? ⟨wo.heap.size, 0, none⟩ = some (.int .i64 fn) /\ w'.cell? ⟨wo.heap.size, 2, none⟩ = some (.int .i64 tn) /\ w'.cell? ⟨g1, fn, none⟩ = some (.slice (some ⟨g0, fn * d, none⟩) d d)) /\ Hid (Ad g0 (fn * d) d tn (s0 es j fn) w5 w')) (first | exact ad_up hx6 hw6 h56 HA.out.2.2.2.2.1 HA.out.2.2.2.1 HA.out.2.2.2.1 HA.out.2.2.2.2.2 (by assumption) | exact ⟨⟨y6, z0, z2, c0⟩, ad_drew HAd0.out⟩ | go_keep)
       ((first
         | (go_at_call 99; refine Calls.mono (HA.out.2.2.1 _ (ad_h (by assumption))) ?_; rintro r w6 ⟨⟨vr, rfl⟩, hx6, hw6, h56⟩)
         | fail))
      have H6 : Hid _ := And.intro hx6 h56
      clear hx6 hw6 h56 y6 z0 z1 z2 c0
      rename_i hS3
      clear hS3
      go_wp2_with fail
      go_roundg (L - (j + 1))
      case measure => omega
      case rel =>
       refine ⟨j + 1, rfl, by omega, by go_num, upm_congr (HA.out.1.put hfm H6.out.2 H6.out.1 fun q hq e => rl_off e) fun p q hp hq => ?_, HA.out.2.1.trans H6.out.2.kp⟩
       unfold s0
       rw [tau_step HZ.out]
       by_cases e : p = fn
       ·subst e
        rw [if_pos rfl]
        have : ((tn : Int) == (q : Int)) = decide (q = tn) := by
         by_cases h : q = tn
         ·subst h; simp
         ·simp [h]; omega
        simp [this, Bool.or_assoc]
       ·rw [if_neg e]
        have : ((fn : Int) == (p : Int)) = false := by simp; omega
        simp [this]
     ·have e1 : (l == 0) = false := by simp [hl]
      have HA : Hid _ := And.intro hR hK
      clear hR hK
      go_wp2_with fail
      go_roundg (L - (j + 1))
      case measure => omega
      case rel =>
       refine ⟨j + 1, rfl, by omega, by go_num, (HA.out.1.below ((Below.refl _ _).alloc (Nat.le_refl _) _)).congr fun p q hp hq => ?_, HA.out.2.trans (Kept.of_below ((Below.refl _ _).alloc (Nat.le_refl _) _))⟩
       unfold s0
       rw [tau_step HZ.out]
       simp [e1]
    ·have q2 : ¬ (j : Int) < (L : Int) := by omega
     obtain rfl : j = L := by omega
     have HA : Hid _ := And.intro hR hK
     clear hR hK hbw
     go_wp2_with fail
     go_loopg [60] m (fun z iv wr => ∃ i : Nat, z = m - i /\ i <= m /\ iv = .int .i64 i /\ Rws wr w2.heap.size g1 m d (rl g0 d) (Wk.sil es i) /\ Kept (fun b => b = g0) w4 wr)
     case atStart => exact ⟨0, rfl, Nat.zero_le _, rfl, HA.out.1.congr fun p q _ _ => by unfold s0; rw [HD.out.2.1, List.take_length]; rfl, HA.out.2⟩
     case round =>
      obtain ⟨i, rfl, hi, rfl, hR, hK⟩ := hrel
      clear y5
      obtain ⟨wi, rfl⟩ : ∃ wi, wi = wr := ⟨_, rfl⟩
      obtain ⟨y5, _, hbw⟩ := HF.out wi hK
      by_cases hli : i < m
      ·have q3 : (0 : Int) <= (i : Int) := by omega
       have q4 : (i : Int) < (m : Int) := by omega
       have c0 := hR.lst.cell hli
       unfold rl Lc.v rowV at c0
       simp only at c0
       obtain ⟨w5, hw5⟩ : ∃ w5, w5 = wi.alloc (.cells #[.int .i64 i] 3) := ⟨_, rfl⟩
       have hb5 : Below wi.heap.size wi w5 := by rw [hw5]; exact (Below.refl _ _).alloc (Nat.le_refl _) _
       have z0 : w5.cell? ⟨wi.heap.size, 0, none⟩ = some (.int .i64 i) := by rw [hw5]; exact cell0_of (heap_alloc_new wi _) rfl
       have y6 := cell_up y5 hb5
       have hR5 := hR.below hb5
       have hg0 : g0 < wi.heap.size := (hR.row i hli).lt
       have hJ := joinS_any g0 g1 m d (Wk.sil es i) g0 (i * d) d (Wk.sil es i i) (fun p => Wk.sil es i p i) w3.heap.size wi.heap.size w2.heap.size w5 hdd (by have := HD.out.2.2; omega) hR5 (hR5.row i hli) (.inr ⟨i, hli, rfl, rfl, rfl⟩) fun p W hp hkW hRp =>
        sil1_any g0 g1 m d p i w3.heap.size wi.heap.size (Wk.sil es i p) W hdd hp (by rw [HD.out.1]; exact lt_wds hli) (cell_kept9 hkW y6 (by have := H3.out.2.2.2.1; omega)) (cell_kept9 hkW z0 (by omega)) (by
         have c1 := cell_kept9 hkW (hR5.lst.cell hp) (by have := H3.out.2.2.1; omega)
         exact c1) hRp
       unfold rowV at hJ
       have HJ : Hid _ := And.intro hJ (hK.trans (Kept.of_below hb5))
       have HW5 : Hid _ := hw5
       clear hR hK hR5 hJ hb5 hg0 z0 hbw hw5
       go_upto_region 21 with fail
       rw [<- HW5.out]
       go_wp2_with fail
       refine Calls.mono HJ.out.1 ?_
       rintro r w6 ⟨rfl, hx, hk⟩
       have H6 : Hid _ := And.intro hx hk
       clear hx hk y6
       go_wp2_with fail
       have hmm : m <= 300 := HD.out.2.2
       go_roundg (m - (i + 1))
       case measure => omega
       case rel => exact ⟨i + 1, rfl, by omega, by go_num, H6.out.1, HJ.out.2.trans H6.out.2⟩
      ·have q4 : ¬ (i : Int) < (m : Int) := by omega
       obtain rfl : i = m := by omega
       have HA : Hid _ := And.intro hR (And.intro hbw hK.size)
       clear hR hK hbw
       go_wp2_with fail
       go_ret2
       have hle : w.heap.size <= w2.heap.size := by have := H3.out.2.2.2.2.1; omega
       exact ⟨g0, g1, rfl, ⟨HA.out.1.lst, HA.out.1.row, Nat.le_trans hle HA.out.1.ug, fun p hp => Nat.le_trans hle (HA.out.1.ur p hp)⟩, ⟨Nat.le_trans hle H3.out.2.2.2.1.1, by have := H3.out.2.2.2.1.2; have := HZ4.out; have := HA.out.2.2; omega⟩, H1.out.2.1.trans (HA.out.2.1.mono H1.out.2.1.size)⟩
end
section
open Go.RowKit Go.Maps
attribute [local go_sem ↓] Go.wp_at_zero Go.wp_at_succ
theorem Tryz.infoTR : (Tryz.prog.info? 78).map (fun i => (i.zero, i.size, i.bytes)) = some (some (.slice none 0 0), 1, 24) := by kernel_rfl
theorem makeTR (n : Nat) (hn : n <= 1000000) (w : World) : (Instr.makeSlice 88 (.int .i64 (n : Int)) (.int .i64 (n : Int))).run Tryz.prog w = .ok (.slice (some ⟨w.heap.size, 0, none⟩) n n) (w.alloc (.cells (madeV (.slice none 0 0) n) 78)) := make_of _ _ _ 24 Tryz.underlying88 Tryz.infoTR n hn (by decide) w
set_option maxRecDepth 100000 in
set_option maxHeartbeats 2000000 in
theorem tab1_any (g0 g1 n d p v k1 k2 : Nat) (Sp : Nat -> Bool) (w : World) (hd : d <= 10000) (hp : p < n) (hv : v / 64 < d) (c1 : w.cell? ⟨k1, 0, none⟩ = some (.slice (some ⟨g1, 0, none⟩) n n)) (c2 : w.cell? ⟨k2, 0, none⟩ = some (.int .i64 v)) (c3 : w.cell? ⟨g1, p, none⟩ = some (.slice (some ⟨g0, p * d, none⟩) d d)) (hR : RowAt w g0 (p * d) d Sp) :
 Calls Tryz.prog 106 #[.int .i64 p, .pointer (some ⟨k1, 0, none⟩), .pointer (some ⟨k2, 0, none⟩)] w fun r w' => r = .returned (.bool (Sp v)) /\ Below w.heap.size w w' := by
 have hH := fun k => hasRow_any g0 (p * d) d d v Sp (w.drewN k) hd hv (rowAt_drewN hR k)
 unfold rowV at hH
 have HH : Hid _ := And.intro hH trivial
 have q0 : (0 : Int) <= (p : Int) := by omega
 have q1 : (p : Int) < (n : Int) := by omega
 clear hH hR
 go_enter Tryz.func106, Tryz.ntmps106
 go_upto_region 1 with fail
 go_quiet ((go_at_call 102; exact (HH.out.1 _).mono fun _ _ ⟨he, hw⟩ => ⟨he, _, hw⟩))
 go_wp2_with fail
 go_ret
 exact ⟨rfl, below_drewN (Below.refl _ _) _⟩
structure TbI (w : World) (B gt kk m d : Nat) (ge gw : Nat -> Nat) (i : Nat) : Prop where
 lst : ListAt 78 w gt kk fun a => if a < i then .slice (some ⟨ge a, 0, none⟩) m m else .slice none 0 0
 rows : ∀ a, a < i -> Rws w B (ge a) m d (rl (gw a) d) fun _ _ => false
 inc : ∀ a b, a < i -> b < i -> a ≠ b -> gw a ≠ gw b
 lo : ∀ a, a < i -> B <= gw a /\ gw a < w.heap.size
structure Tbl (w : World) (B gt kk m d : Nat) (ge gw : Nat -> Nat) (T : Nat -> Nat -> Nat -> Bool) : Prop where
 lst : ListAt 78 w gt kk fun a => .slice (some ⟨ge a, 0, none⟩) m m
 rows : ∀ a, a < kk -> Rws w B (ge a) m d (rl (gw a) d) (T a)
 inc : ∀ a b, a < kk -> b < kk -> a ≠ b -> gw a ≠ gw b
 lo : ∀ a, a < kk -> B <= gw a /\ gw a < w.heap.size
theorem Tbl.below {w w' : World} {B gt kk m d : Nat} {ge gw : Nat -> Nat} {T : Nat -> Nat -> Nat -> Bool} (h : Tbl w B gt kk m d ge gw T) (hb : Below w.heap.size w w') : Tbl w' B gt kk m d ge gw T := ⟨h.lst.below hb, fun a ha => (h.rows a ha).below hb, h.inc, fun a ha => ⟨(h.lo a ha).1, by have := (h.lo a ha).2; have := hb.size; omega⟩⟩
theorem Tbl.congr {w : World} {B gt kk m d : Nat} {ge gw : Nat -> Nat} {T T' : Nat -> Nat -> Nat -> Bool} (h : Tbl w B gt kk m d ge gw T) (hT : ∀ a p q, a < kk -> p < m -> q / 64 < d -> T a p q = T' a p q) : Tbl w B gt kk m d ge gw T' := ⟨h.lst, fun a ha => (h.rows a ha).congr fun p q hp hq => hT a p q ha hp hq, h.inc, h.lo⟩
theorem list_ne9 {ty t2 : TypeId} {w : World} {g h n m : Nat} {f f2 : Nat -> Value} (a : ListAt ty w g n f) (b : ListAt t2 w h m f2) (ht : ty ≠ t2) : g ≠ h := fun e => by
 obtain ⟨c1, h1, _⟩ := a
 obtain ⟨c2, h2, _⟩ := b
 rw [e, h2] at h1
 injection h1 with e1
 injection e1 with _ e2
 exact ht e2.symm
theorem list_blk9 {ty t2 : TypeId} {w : World} {g b n : Nat} {f : Nat -> Value} {cs : Array Value} (a : ListAt ty w g n f) (h2 : w.heap[b]? = some (.cells cs t2 (0, 0))) (ht : ty ≠ t2) : g ≠ b := fun e => by
 obtain ⟨c1, h1, _⟩ := a
 rw [e, h2] at h1
 injection h1 with e1
 injection e1 with _ e2
 exact ht e2.symm
theorem Rws.kept9 {w w' : World} {B g n d : Nat} {r : Nat -> Lc} {X : Nat -> Nat -> Bool} {F : Nat -> Prop} (h : Rws w B g n d r X) (hk : Kept F w w') (hg : ¬ F g) (hr : ∀ p, p < n -> ¬ F (r p).b) : Rws w' B g n d r X := ⟨h.lst.kept hk hg, fun p hp => (h.row p hp).kept hk (hr p hp), h.ug, h.ur⟩
theorem Tbl.turn {w w' : World} {B gt kk m d l : Nat} {ge gw : Nat -> Nat} {T : Nat -> Nat -> Nat -> Bool} {X : Nat -> Nat -> Bool} (h : Tbl w B gt kk m d ge gw T) (hl : l < kk) (hk : Kept (fun b => b = gw l) w w') (hx : Rws w' B (ge l) m d (rl (gw l) d) X) (hw : ∃ cs, w.heap[gw l]? = some (.cells cs 140 (0, 0))) : Tbl w' B gt kk m d ge gw (fun a => if a = l then X else T a) := by
 obtain ⟨cs, hcs⟩ := hw
 refine ⟨h.lst.kept hk (list_blk9 h.lst hcs (by decide)), fun a ha => ?_, h.inc, fun a ha => ⟨(h.lo a ha).1, by have := (h.lo a ha).2; have := hk.size; omega⟩⟩
 by_cases e : a = l
 ·subst e; rw [if_pos rfl]; exact hx
 ·rw [if_neg e]
  exact (h.rows a ha).kept9 hk (list_blk9 (h.rows a ha).lst hcs (by decide)) fun p _ => h.inc a l ha hl e
theorem rows_base9 {w : World} {B B' g n d : Nat} {r : Nat -> Lc} {X : Nat -> Nat -> Bool} (h : Rws w B g n d r X) (hb : B' <= B) : Rws w B' g n d r X := ⟨h.lst, h.row, Nat.le_trans hb h.ug, fun p hp => Nat.le_trans hb (h.ur p hp)⟩
theorem TbI.step {wo w5 : World} {B gt kk m d i g0 g1 : Nat} {ge gw : Nat -> Nat} (h : TbI wo B gt kk m d ge gw i) (hS : Sev wo w5 g0 g1 m d) (hB : B <= wo.heap.size) (hi : i < kk) : TbI (w5.setCell ⟨gt, i, none⟩ (.slice (some ⟨g1, 0, none⟩) m m)) B gt kk m d (upm ge i g1) (upm gw i g0) (i + 1) := by
 have hl := h.lst.below hS.bl
 have hg0 : g0 < w5.heap.size := by obtain ⟨cs, hc, _⟩ := hS.wd; exact t_lt hc
 have hs : (w5.setCell ⟨gt, i, none⟩ (.slice (some ⟨g1, 0, none⟩) m m)).heap.size = w5.heap.size := by simp
 refine ⟨(hl.put _).congr fun a _ => ?_, fun a ha => ?_, fun a b ha hb hab => ?_, fun a ha => ?_⟩
 ·by_cases e : a = i
  ·subst e; rw [if_pos rfl, if_pos (by omega), upm_same]
  ·rw [if_neg e, upm_ne _ _ e]
   by_cases e2 : a < i
   ·rw [if_pos e2, if_pos (by omega)]
   ·rw [if_neg e2, if_neg (by omega)]
 ·by_cases e : a = i
  ·subst e
   rw [upm_same, upm_same]
   exact (rows_base9 (sev_rws hS) hB).other hl (by decide) (list_ne9 hS.rw hl (by decide))
  ·rw [upm_ne _ _ e, upm_ne _ _ e]
   have hr := (h.rows a (by omega)).below hS.bl
   exact hr.other hl (by decide) (list_ne9 hr.lst hl (by decide))
 ·by_cases ea : a = i
  ·subst ea
   rw [upm_same, upm_ne _ _ fun e => hab e.symm]
   have := (h.lo b (by omega)).2
   have := hS.u0
   omega
  ·rw [upm_ne _ _ ea]
   by_cases eb : b = i
   ·subst eb
    rw [upm_same]
    have := (h.lo a (by omega)).2
    have := hS.u0
    omega
   ·rw [upm_ne _ _ eb]; exact h.inc a b (by omega) (by omega) hab
 ·by_cases e : a = i
  ·subst e
   rw [upm_same, hs]
   have := hS.u0
   exact ⟨by omega, hg0⟩
  ·rw [upm_ne _ _ e, hs]
   have := h.lo a (by omega)
   have := hS.bl.size
   omega
theorem TbI.full {w : World} {B B0 gt kk m d g0 g1 : Nat} {ge gw : Nat -> Nat} {X : Nat -> Nat -> Bool} (h : TbI w B gt kk m d ge gw kk) (_ : 0 < kk) (hX : Rws w B0 g1 m d (rl g0 d) X) (hB : B0 <= B) (h0 : B0 <= g0) (hlt : g0 < B) (hw : g0 < w.heap.size) : Tbl (w.setCell ⟨gt, 0, none⟩ (.slice (some ⟨g1, 0, none⟩) m m)) B0 gt kk m d (upm ge 0 g1) (upm gw 0 g0) (fun a => if a = 0 then X else fun _ _ => false) := by
 have hl := h.lst
 have hs : (w.setCell ⟨gt, 0, none⟩ (.slice (some ⟨g1, 0, none⟩) m m)).heap.size = w.heap.size := by simp
 refine ⟨(hl.put _).congr fun a ha => ?_, fun a ha => ?_, fun a b ha hb hab => ?_, fun a ha => ?_⟩
 ·by_cases e : a = 0
  ·subst e; rw [if_pos rfl, upm_same]
  ·rw [if_neg e, upm_ne _ _ e, if_pos ha]
 ·by_cases e : a = 0
  ·subst e
   rw [upm_same, upm_same, if_pos rfl]
   exact hX.other hl (by decide) (list_ne9 hX.lst hl (by decide))
  ·rw [upm_ne _ _ e, upm_ne _ _ e, if_neg e]
   have hr := rows_base9 (h.rows a ha) hB
   exact hr.other hl (by decide) (list_ne9 hr.lst hl (by decide))
 ·by_cases ea : a = 0
  ·subst ea
   rw [upm_same, upm_ne _ _ fun e => hab e.symm]
   have := (h.lo b hb).1
   omega
  ·rw [upm_ne _ _ ea]
   by_cases eb : b = 0
   ·subst eb
    rw [upm_same]
    have := (h.lo a ha).1
    omega
   ·rw [upm_ne _ _ eb]; exact h.inc a b ha hb hab
 ·by_cases e : a = 0
  ·subst e; rw [upm_same, hs]; exact ⟨h0, hw⟩
  ·rw [upm_ne _ _ e, hs]
   have := h.lo a ha
   omega
def TT (es : List Sy.Ed) (m j : Nat) : Nat -> Nat -> Nat -> Bool := fun a p q => if a = 0 then Wk.sil es m p q else (es.take j).any fun e => e.2.1 == (a : Int) && (Wk.sil es m p e.1.toNat && Wk.sil es m e.2.2.toNat q)
theorem TT_end {es : List Sy.Ed} {m : Nat} : TT es m es.length = fun a => Wk.tbl es m a := by
 funext a p q
 unfold TT Wk.tbl
 rw [List.take_length]
theorem TT_step {es : List Sy.Ed} {m j : Nat} {e : Sy.Ed} (he : es[j]? = some e) (a p q : Nat) : TT es m (j + 1) a p q = if a = 0 then Wk.sil es m p q else (TT es m j a p q || (e.2.1 == (a : Int) && (Wk.sil es m p e.1.toNat && Wk.sil es m e.2.2.toNat q))) := by
 unfold TT
 by_cases ha : a = 0
 ·rw [if_pos ha, if_pos ha]
 ·rw [if_neg ha, if_neg ha, if_neg ha, List.take_add_one, he]
  simp [List.any_append]
def Jd (g0 g1 m d B : Nat) (Y X : Nat -> Nat -> Bool) (w5 W : World) : Prop := ∃ R, Rws W B g1 m d (rl g0 d) R /\ (∀ p q, p < m -> q / 64 < d -> (R p q || X p q) = (Y p q || X p q)) /\ Kept (fun b => b = g0) w5 W
theorem jd_drew {g0 g1 m d B : Nat} {Y X : Nat -> Nat -> Bool} {w5 w : World} (h : Jd g0 g1 m d B Y X w5 w) : Hid (Jd g0 g1 m d B Y X w5 w.drew) := by
 obtain ⟨R, h1, h2, h3⟩ := h
 exact (⟨R, h1.below ((Below.refl _ _).drew), h2, h3.trans (Kept.of_below ((Below.refl _ _).drew))⟩ : Jd g0 g1 m d B Y X w5 w.drew)
theorem jd_h {g0 g1 m d B : Nat} {Y X : Nat -> Nat -> Bool} {w5 w : World} {P : Prop} (h : P /\ Hid (Jd g0 g1 m d B Y X w5 w)) : Jd g0 g1 m d B Y X w5 w := h.2.out
theorem jd_up {g0 g1 m d B : Nat} {Y X : Nat -> Nat -> Bool} {w5 wa wb : World} {b0 b1 b2 b3 o0 o1 o2 o3 o4 : Nat} {v0 v1 v2 v3 v4 : Value} (hx : Rws wb B g1 m d (rl g0 d) fun p q => Y p q || X p q) (hw : Kept (fun b => b = g0) wa wb) (h5 : Kept (fun b => b = g0) w5 wb) (n0 : g0 ≠ b0) (n1 : g0 ≠ b1) (n2 : g0 ≠ b2) (n3 : g0 ≠ b3)
 (h : (wa.cell? ⟨b0, o0, none⟩ = some v0 /\ wa.cell? ⟨b1, o1, none⟩ = some v1 /\ wa.cell? ⟨b1, o2, none⟩ = some v2 /\ wa.cell? ⟨b2, o3, none⟩ = some v3 /\ wa.cell? ⟨b3, o4, none⟩ = some v4) /\ Hid (Jd g0 g1 m d B Y X w5 wa)) :
 (wb.cell? ⟨b0, o0, none⟩ = some v0 /\ wb.cell? ⟨b1, o1, none⟩ = some v1 /\ wb.cell? ⟨b1, o2, none⟩ = some v2 /\ wb.cell? ⟨b2, o3, none⟩ = some v3 /\ wb.cell? ⟨b3, o4, none⟩ = some v4) /\ Hid (Jd g0 g1 m d B Y X w5 wb) :=
 ⟨⟨cell_kept9 hw h.1.1 fun e => n0 e.symm, cell_kept9 hw h.1.2.1 fun e => n1 e.symm, cell_kept9 hw h.1.2.2.1 fun e => n1 e.symm, cell_kept9 hw h.1.2.2.2.1 fun e => n2 e.symm, cell_kept9 hw h.1.2.2.2.2 fun e => n3 e.symm⟩, (⟨_, hx, fun p q _ _ => by simp, h5⟩ : Jd g0 g1 m d B Y X w5 wb)⟩
set_option maxRecDepth 100000 in
set_option maxHeartbeats 16000000 in
theorem tableOf_ok (m kk : Nat) (s : Int) (v : Value) (es : List Sy.Ed) (a : Addr) (w : World) (hA : Sent w 11 a) (hv : BEdges.Has w v es) (hq : Sy.right m kk s es = true) (hn : m <= 300) :
 Calls Tryz.prog 36 #[sysV m kk s v] w fun r w' => ∃ gt ge gw, r = .returned (.tuple #[.slice (some ⟨gt, 0, none⟩) kk kk, .nilIface]) /\ Tbl w' w.heap.size gt kk m (Br.wds m) ge gw (fun a => Wk.tbl es m a) /\ Below w.heap.size w w' := by
 have hv0 := hv
 obtain ⟨ao, cap, rfl, _⟩ := hv0
 have hI := Wk.in_right hq
 obtain ⟨L, hL⟩ : ∃ L, L = es.length := ⟨_, rfl⟩
 obtain ⟨w1, hw1⟩ : ∃ w1, w1 = w.alloc (.cells #[.int .i64 m, .int .i64 kk, .int .i64 s, .slice ao L cap] 24) := ⟨_, rfl⟩
 have hb1 : Below w.heap.size w w1 := by rw [hw1]; exact (Below.refl _ _).alloc (Nat.le_refl _) _
 have hg1 : w1.heap[w.heap.size]? = some (.cells #[.int .i64 m, .int .i64 kk, .int .i64 s, .slice ao L cap] 24 (0, 0)) := by rw [hw1]; exact heap_alloc_new w _
 have hC := silentOf_ok m kk s (.slice ao es.length cap) es a w1 (hA.below hb1) (hv.below hb1) hq hn
 obtain ⟨d, hd⟩ : ∃ d, d = Br.wds m := ⟨_, rfl⟩
 have hSv := fun W => several_any m m (by omega) (by omega) (by omega) W
 have hqq : (1 : Int) <= kk /\ (kk : Int) <= 201 /\ es.length <= 10000 := by unfold Sy.right at hq; simp only [Bool.and_eq_true, decide_eq_true_eq] at hq; exact hq.1.1.2.2
 have hlab : ∀ e ∈ es, e.2.1 < (kk : Int) := fun e he => by
  unfold Sy.right at hq
  simp only [Bool.and_eq_true, decide_eq_true_eq, List.all_eq_true] at hq
  exact (hq.2 e he).2.2.2.2.2
 have hvL := hv.below hb1
 rw [<- hd] at hSv hC ⊢
 rw [<- hL] at hvL hC hqq ⊢
 unfold sysV at hC ⊢
 have hdd : d <= 10000 := by rw [hd]; unfold Br.wds; omega
 have HD : Hid (d = Br.wds m /\ L = es.length /\ m <= 300 /\ 0 < kk /\ kk <= 201 /\ L <= 10000) := ⟨hd, hL, hn, by omega, by omega, hqq.2.2⟩
 have H1 : Hid _ := And.intro hw1 (And.intro hb1 (And.intro hg1 (And.intro hC (And.intro hSv (And.intro hvL (And.intro hI hlab))))))
 obtain ⟨x0, x1, x2, x3⟩ := wk_cells hg1
 clear hA hv hL hw1 hb1 hg1 hC hSv hvL hq hn hd hI hqq hlab
 go_enter Tryz.func36, Tryz.ntmps36
 go_upto_region 1 with fail
 rw [<- H1.out.1]
 go_wp2_with fail
 refine Calls.mono H1.out.2.2.2.1 ?_
 rintro r w2 ⟨g0, g1, rfl, hR2, hg0, hb2⟩
 have H2 : Hid _ := And.intro hR2 (And.intro hb2 hg0)
 have hg2 := wk_res hb2 H1.out.2.2.1
 clear hR2 hb2 hg0 x0 x1 x2 x3
 go_upto_region 2 with fail
 obtain ⟨w3, hw3⟩ : ∃ w3, w3 = w2.alloc (.cells #[.slice (some ⟨g1, 0, none⟩) m m] 78) := ⟨_, rfl⟩
 have hb3 : Below w2.heap.size w2 w3 := by rw [hw3]; exact (Below.refl _ _).alloc (Nat.le_refl _) _
 have hc3 : w3.cell? ⟨w2.heap.size, 0, none⟩ = some (.slice (some ⟨g1, 0, none⟩) m m) := by rw [hw3]; exact cell0_of (heap_alloc_new w2 _) rfl
 rw [<- hw3]
 have hg3 := wk_res hb3 hg2
 obtain ⟨x0, x1, x2, x3⟩ := wk_cells hg3
 have mk := makeTR kk (by have := HD.out.2.2.2.2.1; omega) w3
 obtain ⟨w4, hw4⟩ : ∃ w4, w4 = w3.alloc (.cells (madeV (.slice none 0 0) kk) 78) := ⟨_, rfl⟩
 have hb4 : Below w3.heap.size w3 w4 := by rw [hw4]; exact (Below.refl _ _).alloc (Nat.le_refl _) _
 have hL4 : ListAt 78 w4 w3.heap.size kk fun _ => .slice none 0 0 := by rw [hw4]; exact listAt_new 78 (.slice none 0 0) rfl w3 kk
 have H3 : Hid _ := And.intro (wk_bel hb4 (wk_bel hb3 H2.out.2.1)) (And.intro (H2.out.1.below (wk_bel hb4 hb3)) (And.intro hL4 (And.intro (wk_res hb4 hg3) (cell_up hc3 hb4))))
 have H4 : Hid _ := And.intro hw4 (And.intro hb4 hb3)
 have HS3 : Hid (w3.heap.size = w2.heap.size + 1) := by rw [hw3]; exact (World.size_alloc _ _ : _)
 clear hg2 hg3 hb3 hb4 hc3 hL4 hw3 hw4
 go_upto_region 5 with fail
 rw [<- H4.out.1]
 clear mk x0 x1 x2 x3
 obtain ⟨gt, hgt⟩ : ∃ gt, gt = w3.heap.size := ⟨_, rfl⟩
 have hz3 : w.heap.size < g0 /\ g0 < w3.heap.size /\ w2.heap.size < w3.heap.size /\ w3.heap.size <= w4.heap.size := by
  have := t_lt H1.out.2.2.1
  have := H2.out.2.2
  have := H4.out.2.1.size
  have h9 := HS3.out
  omega
 have HG : Hid _ := And.intro hgt hz3
 rw [<- hgt]
 clear hgt hz3
 go_wp2_with fail
 go_loopg [23] kk (fun z iv wr => ∃ (i : Nat) (ge gw : Nat -> Nat), z = kk - i /\ i <= kk /\ iv = .int .i64 i /\ TbI wr w4.heap.size gt kk m d ge gw i /\ Kept (fun b => b = gt) w4 wr)
 case atStart => exact ⟨0, fun _ => 0, fun _ => 0, rfl, Nat.zero_le _, rfl, ⟨(by rw [HG.out.1]; exact H3.out.2.2.1.congr fun a _ => by simp), fun a ha => by omega, fun a b ha => by omega, fun a ha => by omega⟩, Kept.refl _ _⟩
 case round =>
  obtain ⟨i, ge, gw, rfl, hi, rfl, hT, hK⟩ := hrel
  obtain ⟨x0, x1, x2, x3⟩ := wk_cells H3.out.2.2.2.1
  replace x0 := cell_kept9 hK x0 (by have := HG.out; omega)
  replace x3 := cell_kept9 hK x3 (by have := HG.out; omega)
  clear x1 x2
  by_cases hlt : i < kk
  ·have q0 : (0 : Int) <= (i : Int) := by omega
   have q1 : (i : Int) < (kk : Int) := by omega
   have HA : Hid _ := And.intro hT hK
   have hmm : kk <= 201 := HD.out.2.2.2.2.1
   clear hT hK x3
   go_wp2_with fail
   refine Calls.mono (H1.out.2.2.2.2.1 _) ?_
   rintro r w5 ⟨h0, h1, rfl, hne, hSev⟩
   have hl5 := HA.out.1.lst.below hSev.bl
   have c0 := hl5.cell hlt
   have f0 := hl5.free i
   have HS : Hid _ := hSev
   clear hl5 hSev hne x0
   go_wp2_with fail
   have hmm : kk <= 201 := HD.out.2.2.2.2.1
   go_roundg (kk - (i + 1))
   case measure => omega
   case rel => exact ⟨i + 1, _, _, rfl, by omega, by go_num, HA.out.1.step HS.out HA.out.2.size hlt, (HA.out.2.trans (Kept.of_below HS.out.bl)).trans (Kept.setCell _ _ _ _)⟩
  ·have q1 : ¬ (i : Int) < (kk : Int) := by omega
   obtain rfl : i = kk := by omega
   have y4 := cell_kept9 hK H3.out.2.2.2.2 (by have := HG.out; omega)
   have hR2 := H3.out.2.1.kept9 hK (fun e => list_ne9 H3.out.2.1.lst H3.out.2.2.1 (by decide) (e.trans HG.out.1)) fun p hp e => by
    have := HG.out
    unfold rl at e
    simp only at e
    omega
   have c0 := hT.lst.cell HD.out.2.2.2.1
   have f0 := hT.lst.free 0
   have hTb := hT.full HD.out.2.2.2.1 (rows_base9 hR2 H1.out.2.1.size) (by have := H4.out; have := HG.out; have := H2.out; omega) (by have := HG.out; omega) (by have := HG.out; omega) (by have := HG.out; have := hK.size; omega)
   have hlo : ∀ a, 1 <= a -> a < i -> w4.heap.size <= upm gw 0 g0 a := fun a h1 h2 => by
    rw [upm_ne _ _ (by omega)]
    exact (hT.lo a h2).1
   have hz9 := hK.size
   have hb16 : Below w1.heap.size w1 (wr.setCell ⟨gt, 0, none⟩ (.slice (some ⟨g1, 0, none⟩) m m)) := (H3.out.1.trans (hK.below H3.out.1.size fun k hk => by have := HG.out; have := H2.out.2.1.size; omega)).setCell (show w1.heap.size <= gt by have := HG.out; have := H2.out.2.1.size; omega) _
   have y5 : (wr.setCell ⟨gt, 0, none⟩ (.slice (some ⟨g1, 0, none⟩) m m)).cell? ⟨w2.heap.size, 0, none⟩ = some (.slice (some ⟨g1, 0, none⟩) m m) := cell_kept9 (Kept.setCell wr gt 0 _) y4 (by have := HG.out; omega)
   obtain ⟨w6, hw6⟩ : ∃ w6, w6 = wr.setCell ⟨gt, 0, none⟩ (.slice (some ⟨g1, 0, none⟩) m m) := ⟨_, rfl⟩
   rw [<- hw6] at hTb hb16 y5
   have hx6 := (wk_cells (wk_res hb16 H1.out.2.2.1)).2.2.2
   have hfr : ∀ wr', Kept (fun b => ∃ a, 1 <= a /\ a < i /\ b = upm gw 0 g0 a) w6 wr' -> wr'.cell? ⟨w2.heap.size, 0, none⟩ = some (.slice (some ⟨g1, 0, none⟩) m m) /\ wr'.cell? ⟨w.heap.size, 3, none⟩ = some (.slice ao L cap) /\ Below w1.heap.size w1 wr' := fun wr' hK' => ⟨cell_kept9 hK' y5 (by rintro ⟨a, h1, h2, h3⟩; have := hlo a h1 h2; have := HG.out; omega), cell_kept9 hK' hx6 (by rintro ⟨a, h1, h2, h3⟩; have := hlo a h1 h2; have := HG.out; omega), hb16.trans (hK'.below hb16.size (by rintro k ⟨a, h1, h2, rfl⟩; have := hlo a h1 h2; have := H3.out.1.size; omega))⟩
   have H6 : Hid _ := And.intro hTb (And.intro hw6 (And.intro hfr hlo))
   obtain ⟨ge6, hge6⟩ : ∃ ge6, ge6 = upm ge 0 g1 := ⟨_, rfl⟩
   obtain ⟨gw6, hgw6⟩ : ∃ gw6, gw6 = upm gw 0 g0 := ⟨_, rfl⟩
   rw [<- hge6, <- hgw6] at H6
   have HGW : Hid (gw6 0 = g0 /\ ge6 0 = g1) := by rw [hge6, hgw6]; exact ⟨upm_same _ _ _, upm_same _ _ _⟩
   have x3b := x3
   have q2 : (0 : Int) < (i : Int) := by have := HD.out.2.2.2.1; omega
   clear hT hK hR2 hTb hlo hz9 hb16 hfr hx6 hw6 hge6 hgw6 x0 x3 y5
   go_upto_region 11 with fail
   rw [<- H6.out.2.1]
   have x3 := (H6.out.2.2.1 w6 (Kept.refl _ _)).2.1
   clear x3b y4 c0 f0
   go_wp2_with fail
   go_loopg [41] L (fun z jv wr => ∃ j : Nat, z = L - j /\ j <= L /\ jv = .int .i64 j /\ Tbl wr w.heap.size gt i m d ge6 gw6 (TT es m j) /\ Kept (fun b => ∃ a, 1 <= a /\ a < i /\ b = gw6 a) w6 wr)
   case atStart =>
    refine ⟨0, rfl, Nat.zero_le _, rfl, H6.out.1.congr fun a p q _ _ _ => ?_, Kept.refl _ _⟩
    unfold TT
    by_cases ha : a = 0
    ·subst ha; simp
    ·simp [ha]
   case round =>
    obtain ⟨j, rfl, hj, rfl, hT, hK⟩ := hrel
    clear x3
    obtain ⟨wo, rfl⟩ : ∃ wo, wo = wr := ⟨_, rfl⟩
    obtain ⟨y5, _, hbw⟩ := H6.out.2.2.1 wo hK
    by_cases hlt : j < L
    ·have q3 : (0 : Int) <= (j : Int) := by omega
     have q4 : (j : Int) < (L : Int) := by omega
     obtain ⟨z, hz⟩ : ∃ z, es[j]? = some z := ⟨es[j]'(by have := HD.out.2.1; omega), List.getElem?_eq_getElem _⟩
     obtain ⟨a9, rfl, d0, d1, d2⟩ := edge_at (H1.out.2.2.2.2.2.1.below hbw) hz
     obtain ⟨f, l, g⟩ := z
     have hrg := H1.out.2.2.2.2.2.2.1 _ (List.mem_of_getElem? hz)
     have hlb := H1.out.2.2.2.2.2.2.2 _ (List.mem_of_getElem? hz)
     simp only at d0 d1 d2 hrg hlb
     obtain ⟨fn, rfl⟩ : ∃ fn : Nat, f = (fn : Int) := ⟨f.toNat, by omega⟩
     obtain ⟨tn, rfl⟩ : ∃ tn : Nat, g = (tn : Int) := ⟨g.toNat, by omega⟩
     obtain ⟨ln, rfl⟩ : ∃ ln : Nat, l = (ln : Int) := ⟨l.toNat, by omega⟩
     have hfm : fn < m := by omega
     have htm : tn < m := by omega
     have hlk : ln < i := by omega
     have HZ : Hid _ := hz
     clear hz hrg hbw hlb
     have hLL : L <= 10000 := HD.out.2.2.2.2.2
     by_cases hl : ln = 0
     ·subst hl
      have HA : Hid _ := And.intro hT hK
      clear hT hK
      go_wp2_with fail
      go_roundg (L - (j + 1))
      case measure => omega
      case rel =>
       refine ⟨j + 1, rfl, by omega, by go_num, (HA.out.1.below ((Below.refl _ _).alloc (Nat.le_refl _) _)).congr fun a p q _ _ _ => ?_, HA.out.2.trans (Kept.of_below ((Below.refl _ _).alloc (Nat.le_refl _) _))⟩
       rw [TT_step HZ.out]
       by_cases ha : a = 0
       ·rw [if_pos ha]; unfold TT; rw [if_pos ha]
       ·rw [if_neg ha]
        simp
        omega
     ·have e1 : ((ln : Int) != 0) = true := by simp [bne]; omega
      go_upto_region 15 with fail
      obtain ⟨w5, hw5⟩ : ∃ w5, w5 = wo.alloc (.cells #[.int .i64 fn, .int .i64 ln, .int .i64 tn] 70) := ⟨_, rfl⟩
      have hb5 : Below wo.heap.size wo w5 := by rw [hw5]; exact (Below.refl _ _).alloc (Nat.le_refl _) _
      have hg5 : w5.heap[wo.heap.size]? = some (.cells #[.int .i64 fn, .int .i64 ln, .int .i64 tn] 70 (0, 0)) := by rw [hw5]; exact heap_alloc_new wo _
      rw [<- hw5]
      have z0 : w5.cell? ⟨wo.heap.size, 0, none⟩ = some (.int .i64 fn) := cell0_of hg5 rfl
      have z1 : w5.cell? ⟨wo.heap.size, 1, none⟩ = some (.int .i64 ln) := cell0_of hg5 rfl
      have z2 : w5.cell? ⟨wo.heap.size, 2, none⟩ = some (.int .i64 tn) := cell0_of hg5 rfl
      have y6 := cell_up y5 hb5
      have hT5 := hT.below hb5
      have hk0 := HD.out.2.2.2.1
      have c0 := hT5.lst.cell hlk
      have hR0 := hT5.rows 0 hk0
      rw [HGW.out.1, HGW.out.2] at hR0
      have c1 := hR0.lst.cell htm
      unfold rl Lc.v rowV at c1
      simp only at c1
      have hT0 : TT es m j 0 = Wk.sil es m := by funext p q; unfold TT; rw [if_pos rfl]
      rw [hT0] at hR0
      obtain ⟨csw, hcsw, _⟩ := (hT5.rows ln hlk).row fn hfm
      have hcs2 : ∃ cs, w5.heap[gw6 ln]? = some (.cells cs 140 (0, 0)) := ⟨csw, hcsw⟩
      have hlo := H6.out.2.2.2 ln (by omega) hlk
      have hne : g0 ≠ gw6 ln /\ gw6 ln ≠ w2.heap.size /\ gw6 ln ≠ wo.heap.size /\ gw6 ln ≠ gt /\ gw6 ln ≠ g1 := by
       have h1 := HG.out
       have h2 := H3.out.2.2.1.lt
       have h3 := (hT.lo ln hlk).2
       refine ⟨by omega, by omega, by omega, by omega, fun e => ?_⟩
       exact list_blk9 hR0.lst (by rw [<- e]; exact hcsw) (by decide) rfl
      have hJ := fun (W : World) (h : Jd (gw6 ln) (ge6 ln) m d w.heap.size (TT es m j ln) (fun p q => Wk.sil es m p fn && Wk.sil es m tn q) w5 W) => (by
       obtain ⟨R, h1, h2, h3⟩ := h
       refine (joinT_any (gw6 ln) (ge6 ln) m d R g0 (tn * d) d (Wk.sil es m tn) (fun p => Wk.sil es m p fn) w2.heap.size wo.heap.size w.heap.size W hdd (by have := HD.out.2.2.1; omega) h1 ((hR0.row tn htm).kept h3 hne.1) (.inl hne.1) fun p W2 hp hk2 _ => ?_).mono ?_
       ·have h4 := h3.trans hk2
        exact tab1_any g0 g1 m d p fn w2.heap.size wo.heap.size (Wk.sil es m p) W2 hdd hp (by rw [HD.out.1]; exact lt_wds hfm) (cell_kept9 h4 y6 fun e => hne.2.1 e.symm) (cell_kept9 h4 z0 fun e => hne.2.2.1 e.symm) (cell_kept9 h4 (hR0.lst.cell hp) fun e => hne.2.2.2.2 e.symm) ((hR0.row p hp).kept h4 hne.1)
       ·rintro r w' ⟨hr, hx, hw⟩
        exact ⟨hr, hx.congr h2, hw, h3.trans hw⟩ : Calls Tryz.prog 100 #[.slice (some ⟨ge6 ln, 0, none⟩) m m, .func (.func 106) #[] #[.pointer (some ⟨w2.heap.size, 0, none⟩), .pointer (some ⟨wo.heap.size, 0, none⟩)], rowV g0 (tn * d) d d] W fun r w' => r = .returned (.tuple #[]) /\ Rws w' w.heap.size (ge6 ln) m d (rl (gw6 ln) d) (fun p q => TT es m j ln p q || (Wk.sil es m p fn && Wk.sil es m tn q)) /\ Kept (fun b => b = gw6 ln) W w' /\ Kept (fun b => b = gw6 ln) w5 w')
      unfold rowV at hJ
      have HA : Hid _ := And.intro hT5 (And.intro (hK.trans (Kept.of_below hb5)) (And.intro hJ (And.intro hne hcs2)))
      have hJ0 : Jd (gw6 ln) (ge6 ln) m d w.heap.size (TT es m j ln) (fun p q => Wk.sil es m p fn && Wk.sil es m tn q) w5 w5 := ⟨_, hT5.rows ln hlk, fun _ _ _ _ => rfl, Kept.refl _ _⟩
      have HJ0 : Hid _ := hJ0
      clear hT hK hT5 hR0 hT0 hcsw hcs2 hlo hne hJ hJ0 hb5 hg5 hw5 y5 d0 d1 d2 e1 z0
      have q5 : (0 : Int) <= (ln : Int) := by omega
      have q6 : (ln : Int) < (i : Int) := by omega
      have q7 : (0 : Int) <= (tn : Int) := by omega
      have q8 : (tn : Int) < (m : Int) := by omega
      go_region_held3 (fun w' => (w'.cell? ⟨w2.heap.size, 0, none⟩ = some (.slice (some ⟨g1, 0, none⟩) m m) /\ w'.cell? ⟨wo.heap.size, 1, none⟩ = some (.int .i64 ln) /\ w'.cell? ⟨wo.heap.size, 2, none⟩ = some (.int .i64 tn) /\ w'.cell? ⟨gt, ln, none⟩ = some (.slice (some ⟨ge6 ln, 0, none⟩) m m) /\ w'.cell? ⟨g1, tn, none⟩ = some (.slice (some ⟨g0, tn * d, none⟩) d d)) /\ Hid (Jd (gw6 ln) (ge6 ln) m d w.heap.size (TT es m j ln) (fun p q => Wk.sil es m p fn && Wk.sil es m tn q) w5 w')) (first | exact jd_up hx7 hw7 h57 HA.out.2.2.2.1.2.1 HA.out.2.2.2.1.2.2.1 HA.out.2.2.2.1.2.2.2.1 HA.out.2.2.2.1.2.2.2.2 (by assumption) | exact ⟨⟨y6, z1, z2, c0, c1⟩, jd_drew HJ0.out⟩ | go_keep)
       ((first
         | (go_at_call 100; refine Calls.mono (HA.out.2.2.1 _ (jd_h (by assumption))) ?_; rintro r w7 ⟨rfl, hx7, hw7, h57⟩)
         | fail))
      have H7 : Hid _ := And.intro hx7 h57
      clear hx7 hw7 h57 y6 z1 z2 c0 c1
      rename_i hS3
      clear hS3
      go_wp2_with fail
      go_roundg (L - (j + 1))
      case measure => omega
      case rel =>
       refine ⟨j + 1, rfl, by omega, by go_num, (HA.out.1.turn hlk H7.out.2 H7.out.1 HA.out.2.2.2.2).congr fun a p q _ _ _ => ?_, HA.out.2.1.trans (H7.out.2.mono fun b _ hb => ⟨ln, by omega, hlk, hb⟩)⟩
       rw [TT_step HZ.out]
       by_cases ha : a = 0
       ·rw [if_pos ha, if_neg (by omega)]; unfold TT; rw [if_pos ha]
       ·rw [if_neg ha]
        by_cases e : a = ln
        ·subst e; simp
        ·rw [if_neg e]
         have : ((ln : Int) == (a : Int)) = false := by simp; omega
         simp [this]
    ·have q3 : ¬ (j : Int) < (L : Int) := by omega
     obtain rfl : j = L := by omega
     have HA : Hid _ := And.intro hT hbw
     clear hT hK hbw
     go_wp2_with fail
     go_ret2
     have hTT := HA.out.1
     rw [HD.out.2.1, TT_end] at hTT
     exact ⟨gt, rfl, ⟨ge6, gw6, hTT⟩, H1.out.2.1.trans (HA.out.2.mono H1.out.2.1.size)⟩
end
section
open Go.RowKit Go.Maps
attribute [local go_sem ↓] Go.wp_at_zero Go.wp_at_succ
def szR (T : Nat -> Nat -> Bool) (m : Nat) : Nat -> Nat
 | 0 => 0
 | p + 1 => szR T m p + (Br.els (T p) m).length
def szT (T : Nat -> Nat -> Nat -> Bool) (m : Nat) : Nat -> Nat
 | 0 => 0
 | a + 1 => szT T m a + szR (T a) m m
theorem szR_le (T : Nat -> Nat -> Bool) (m : Nat) : ∀ p, szR T m p <= p * m
 | 0 => Nat.zero_le _
 | p + 1 => by
   have := szR_le T m p
   have := els_le9 (T p) m
   show szR T m p + _ <= (p + 1) * m
   rw [Nat.add_mul, Nat.one_mul]
   omega
theorem szT_le (T : Nat -> Nat -> Nat -> Bool) (m : Nat) : ∀ a, szT T m a <= a * (m * m)
 | 0 => Nat.zero_le _
 | a + 1 => by
   have := szT_le T m a
   have := szR_le (T a) m m
   show szT T m a + _ <= (a + 1) * (m * m)
   rw [Nat.add_mul, Nat.one_mul]
   omega
theorem len_flat {α : Type} (F G : Nat -> List α) : ∀ n, ((List.range n).flatMap fun p => F p ++ G p).length = ((List.range n).flatMap F).length + ((List.range n).flatMap G).length
 | 0 => rfl
 | n + 1 => by
   rw [List.range_succ, List.flatMap_append, List.flatMap_append, List.flatMap_append]
   simp only [List.length_append, List.flatMap_cons, List.flatMap_nil, List.append_nil]
   rw [len_flat F G n]
   omega
theorem len_row (T : Nat -> Nat -> Bool) (m : Nat) (f : Nat -> Nat -> Sy.Ed) : ∀ n, ((List.range n).flatMap fun p => (Br.els (T p) m).map (f p)).length = szR T m n
 | 0 => rfl
 | n + 1 => by
   rw [List.range_succ, List.flatMap_append, List.length_append, len_row T m f n]
   simp [szR]
theorem flat_nil : ∀ l : List Nat, (l.flatMap fun _ => ([] : List Sy.Ed)) = []
 | [] => rfl
 | _ :: r => by rw [List.flatMap_cons, flat_nil r]; rfl
theorem sat_len (es : List Sy.Ed) (n : Nat) : ∀ k, (Wk.sat es n k).length = szT (fun a => Wk.tbl es n a) n k
 | 0 => by
   have : Wk.sat es n 0 = [] := flat_nil _
   rw [this]; rfl
 | k + 1 => by
   have e : Wk.sat es n (k + 1) = (List.range n).flatMap fun p => ((List.range k).flatMap fun a => (Br.els (Wk.tbl es n a p) n).map fun (q : Nat) => ((p : Int), (a : Int), (q : Int))) ++ (Br.els (Wk.tbl es n k p) n).map fun (q : Nat) => ((p : Int), (k : Int), (q : Int)) := by
    unfold Wk.sat
    refine Wk.flatMap_same fun p _ => ?_
    rw [List.range_succ, List.flatMap_append]
    simp
   rw [e, len_flat, len_row (fun p => Wk.tbl es n k p) n fun p q => ((p : Int), (k : Int), (q : Int))]
   have := sat_len es n k
   unfold Wk.sat at this
   rw [this]
   rfl
set_option maxRecDepth 100000 in
set_option maxHeartbeats 8000000 in
theorem tsize_any (w : World) (B gt kk m d : Nat) (ge gw : Nat -> Nat) (T : Nat -> Nat -> Nat -> Bool) (hd : d = Br.wds m) (hm : m <= 300) (hk : kk <= 201) (hT : Tbl w B gt kk m d ge gw T) (hb : ∀ a p q, a < kk -> p < m -> T a p q = true -> q < m) :
 Calls Tryz.prog 107 #[.slice (some ⟨gt, 0, none⟩) kk kk] w fun r w' => r = .returned (.int .i64 (szT T m kk)) /\ w' = w := by
 have hle := szT_le T m
 have hmm : m * m <= 90000 := Nat.le_trans (Nat.mul_le_mul hm hm) (by decide)
 have H : Hid _ := And.intro hT (And.intro hb (And.intro hle (And.intro hmm hd)))
 have hdd : d <= 10000 := by rw [hd]; unfold Br.wds; omega
 clear hT hb hle hmm hd
 go_enter Tryz.func107, Tryz.ntmps107
 go_wp2_with fail
 go_loopg [10, 3] kk (fun z iv sv wr => ∃ i : Nat, z = kk - i /\ i <= kk /\ iv = .int .i64 i /\ sv = .int .i64 (szT T m i) /\ wr = w)
 case atStart => exact ⟨0, rfl, Nat.zero_le _, rfl, rfl, rfl⟩
 case round =>
  obtain ⟨i, rfl, hi, rfl, rfl, hw⟩ := hrel
  obtain rfl := hw.symm
  clear hw
  by_cases hlt : i < kk
  ·have q0 : (0 : Int) <= (i : Int) := by omega
   have q1 : (i : Int) < (kk : Int) := by omega
   have c0 := H.out.1.lst.cell hlt
   have h1 : szT T m i <= 201 * 90000 := Nat.le_trans (H.out.2.2.1 i) (Nat.mul_le_mul (by omega) H.out.2.2.2.1)
   obtain ⟨A, hA⟩ : ∃ A, A = szT T m i := ⟨_, rfl⟩
   rw [<- hA] at h1 ⊢
   have HA : Hid _ := And.intro hA h1
   clear hA h1
   go_wp2_with fail
   go_loopg [16, 3] m (fun z jv sv wr => ∃ p : Nat, z = m - p /\ p <= m /\ jv = .int .i64 p /\ sv = .int .i64 (A + szR (T i) m p : Nat) /\ wr = w)
   case atStart => exact ⟨0, rfl, Nat.zero_le _, rfl, by simp [szR], rfl⟩
   case round =>
    obtain ⟨p, rfl, hp, rfl, rfl, hw⟩ := hrel
    obtain rfl := hw.symm
    clear hw c0
    by_cases hlp : p < m
    ·have q2 : (0 : Int) <= (p : Int) := by omega
     have q3 : (p : Int) < (m : Int) := by omega
     have hR := H.out.1.rows i hlt
     have c1 := hR.lst.cell hlp
     unfold rl Lc.v rowV at c1
     simp only at c1
     have hS := sizeRow_any (gw i) (p * d) d d (T i p) w hdd (hR.row p hlp)
     have hsk : Br.els (T i p) (64 * d) = Br.els (T i p) m := Br.els_skip (by have := H.out.2.2.2.2; unfold Br.wds at this; omega) fun z h1 _ => by
      cases h : T i p z with
      | false => rfl
      | true => have := H.out.2.1 i p z hlt hlp h; omega
     rw [hsk] at hS
     unfold rowV at hS
     have h2 : szR (T i) m p <= 90000 := Nat.le_trans (szR_le (T i) m p) (Nat.le_trans (Nat.mul_le_mul_right _ hp) H.out.2.2.2.1)
     have h3 := els_le9 (T i p) m
     obtain ⟨L, hL⟩ : ∃ L, L = (Br.els (T i p) m).length := ⟨_, rfl⟩
     obtain ⟨X, hX⟩ : ∃ X, X = A + szR (T i) m p := ⟨_, rfl⟩
     rw [<- hL] at hS h3
     rw [<- hX]
     have h4 : X + L <= 1000000000 := by have := HA.out.2; omega
     have HS : Hid _ := And.intro hS (And.intro hL hX)
     clear hS hL hX h2 h3 hR hsk
     go_wp2_with fail
     refine Calls.mono HS.out.1 ?_
     rintro r w1 ⟨rfl, hw1⟩
     obtain rfl := hw1.symm
     clear hw1
     go_wp2_with fail
     go_roundg (m - (p + 1))
     case measure => omega
     case rel => exact ⟨p + 1, rfl, by omega, by go_num, by
      show _ = Value.int .i64 ((A + (szR (T i) m p + (Br.els (T i p) m).length) : Nat) : Int)
      rw [<- HS.out.2.1, <- Nat.add_assoc, <- HS.out.2.2]
      go_num, rfl⟩
    ·obtain rfl : p = m := by omega
     have q3 : ¬ (p : Int) < (p : Int) := by omega
     go_wp2_with fail
     go_roundg (kk - (i + 1))
     case measure => omega
     case rel => exact ⟨i + 1, rfl, by omega, by go_num, by rw [HA.out.1]; rfl, rfl⟩
  ·obtain rfl : i = kk := by omega
   have q1 : ¬ (i : Int) < (i : Int) := by omega
   go_wp2_with fail
   go_ret
   exact ⟨rfl, rfl⟩
end
section
open Go.RowKit Go.Maps
attribute [local go_sem ↓] Go.wp_at_zero Go.wp_at_succ
def TabW (w : World) : Prop := ∀ j, j < 64 -> w.cell? ⟨12, j, none⟩ = some (.int .u8 (Lib.deBruijn64tab.getD j 0 : Nat))
theorem TabW.cells {w w' : World} (h : TabW w) (hc : ∀ j v, w.cell? ⟨12, j, none⟩ = some v -> w'.cell? ⟨12, j, none⟩ = some v) : TabW w' := fun j hj => hc j _ (h j hj)
theorem TabW.below {w w' : World} {B : Nat} (h : TabW w) (hB : 12 < B) (hb : Below B w w') : TabW w' := h.cells fun _ _ hv => (hb.cell hB).trans hv
theorem TabW.lt {w : World} (h : TabW w) : 12 < w.heap.size := World.block_lt_of_cell? w _ (h 0 (by decide))
theorem tz_key (x a : Nat) (hx : x < 18446744073709551616) (hx0 : x ≠ 0) (hlow : x &&& (18446744073709551616 - x) = a) :
 IntKind.u64.wrap (bits BinOp.and IntKind.u64 (x : Int) (IntKind.u64.wrap (-(x : Int))) * 285870213051353865) / 288230376151711744 = ((a * 285870213051353865 % 18446744073709551616 / 288230376151711744 : Nat) : Int) := by
 have e1 : IntKind.u64.wrap (-(x : Int)) = ((18446744073709551616 - x : Nat) : Int) := by rw [IntKind.wrap_u64]; omega
 rw [e1, bits_and_u64_nat x _ hx (by omega), hlow, IntKind.wrap_u64]
 omega
set_option maxRecDepth 100000 in
set_option maxHeartbeats 1000000 in
theorem tz_core (x k idx : Nat) (w : World) (hx0 : ((x : Int) == 0) = false)
 (key : IntKind.u64.wrap (bits BinOp.and IntKind.u64 (x : Int) (IntKind.u64.wrap (-(x : Int))) * 285870213051353865) / 288230376151711744 = (idx : Int))
 (hi : idx < 64) (hk : k < 64) (hcell : w.cell? ⟨12, idx, none⟩ = some (.int .u8 k)) :
 Calls Tryz.prog 105 #[.int .u64 x] w fun r w' => r = .returned (.int .i64 k) /\ w' = w := by
 go_enter Tryz.func105, Tryz.ntmps105
 go_wp2_with (simp only [key])
 go_ret
 exact ⟨rfl, rfl⟩
theorem tz_any (x : Nat) (hx0 : x ≠ 0) (hx : x < 18446744073709551616) (w : World) (hT : TabW w) : Calls Tryz.prog 105 #[.int .u64 x] w fun r w' => r = .returned (.int .i64 (Lib.ctz 64 x : Nat)) /\ w' = w := by
 obtain ⟨hlow, hk⟩ := Lib.lowest_bit 64 x hx0 hx
 obtain ⟨hi, htab⟩ := Lib.deBruijn64_at _ hk
 have hcell := hT _ hi
 rw [htab] at hcell
 exact tz_core x _ _ w (by simp; omega) (tz_key x _ hx hx0 hlow) hi hk hcell
end
section
open Go.RowKit
def Tells {α : Type} (F : Fence) (n : Nat) (P : Program) (g : Nat) (lb : Array Value) (encs : α -> Array Value) (Kp : World -> World -> Prop) (Good : List α -> α -> World -> Prop) (S Sp : List α -> Prop) (w : World) : Prop :=
 ∀ (l : Nat) (J Jx : List α -> World -> Prop) (W : World), Below w.heap.size w W -> AbidesFrom W.heap.size J -> AbidesFrom W.heap.size Jx ->
  (∀ pre x W1, J pre W1 -> Good pre x W1 -> YieldAt F (n - 1) P l (encs x) W1 fun e W' =>
    (e = .returned (.bool true) /\ J (pre ++ [x]) W' /\ Kp W1 W') \/ (e = .returned (.bool false) /\ Jx (pre ++ [x]) W')) ->
  J [] W ->
  CallsIn F n P g (#[.func (.yield l) #[] #[]] ++ lb) W fun e W' => (∃ v, e = .returned v) /\ ((∃ xs, S xs /\ J xs W') \/ (∃ pre, Sp pre /\ Jx pre W'))
section
variable {F : Fence} {n : Nat} {P : Program}
def rec5 (fn : FuncId) (a : Act) (ps : Array Tmp) (assign body : Code) (d : Nat) (st : LoopState) (pe : Option Code) : Loop := { state := st, pending := pe, fn, tmps := a.tmps, params := ps, assign, body, defers := d }
theorem loop_tells {α : Type} {g : Operand} {ps : Array Tmp} {assign body : Code} {Q : Exit -> Act -> World -> Prop} {a : Act} {w : World}
 (hro : F.round = none) (h1 : 1 <= n) {gf : Nat} {lb : Array Value} (hg : a.eval g = .func (.func gf) #[] lb) (hFg : F.fn gf) (eg : ∀ args w, (callFunc gf args).run P w = .ok (.enter gf args) w)
 {encs : α -> Array Value} {Kp : World -> World -> Prop} {Good : List α -> α -> World -> Prop} {S Sp : List α -> Prop} {w0 : World} (hseq : Tells F (n - 1) P gf lb encs Kp Good S Sp w0)
 (hKt : ∀ {A B C : World}, Kp A B -> Kp B C -> Kp A C) (hKb : ∀ (W : World) (l : Nat) (o o' : Obj), w.heap.size <= l -> W.heap[l]? = some o -> o.isCells = false -> o.isWalk = false -> Kp W (W.putObj l o'))
 (hGb : ∀ pre x (W : World) (l : Nat) (o o' : Obj), w.heap.size <= l -> W.heap[l]? = some o -> o.isCells = false -> Good pre x W -> Good pre x (W.putObj l o'))
 (hb0 : Below w0.heap.size w0 w) (hps : ∀ x, (encs x).size = ps.size)
 (I : List α -> World -> Prop) (Ix : Code -> List α -> World -> Prop) (hI : OwnFrom w.heap.size I) (hIx : ∀ c, OwnFrom w.heap.size (Ix c)) (h0 : I [] w) (a₁ : α -> Act)
 (hassign : ∀ (l : Nat) (x : α) (W : World) (K : Act -> World -> Prop), K (a₁ x) W ->
   assign.wpIn (F.inRound l) (n - 1 - 1) P (Exit.then K (fun _ _ _ => False)) { tmps := (ps.zip (encs x)).foldl (fun t (p, v) => t.setIfInBounds p v) a.tmps, defers := [] } W)
 (hbody : ∀ (l : Nat) (pre : List α) (x : α) (W : World), I pre W -> Good pre x W -> body.wpIn (F.inRound l) (n - 1 - 1) P (ownPostG w.heap.size Kp I Ix (pre ++ [x]) W) (a₁ x) W)
 (hdone : ∀ (D : Nat) (xs : List α) (W : World), w.heap.size <= D -> S xs -> I xs W -> W.heap[D]? = some (.deferred (some [])) -> Q .normal { a with defers := { target := .collected D, args := #[] } :: a.defers } W)
 (hstop : ∀ (D : Nat) (c : Code) (pre : List α) (W : World), w.heap.size <= D -> Sp pre -> Ix c pre W -> W.heap[D]? = some (.deferred (some [])) -> c.wpIn F n P Q { a with defers := { target := .collected D, args := #[] } :: a.defers } W) :
 (Code.rangeFunc g ps assign body).wpIn F n P Q a w := by
 refine wpIn_rangeFunc fun fn hfn => ?_
 rw [hro]
 have eL : w.heap.size < w.heap.size + 1 := Nat.lt_succ_self _
 let R5 := rec5 fn a ps assign body w.heap.size
 obtain ⟨W1, hW1⟩ : ∃ W1, W1 = (w.alloc (.deferred (some []))).alloc (.loop (R5 .ready none)) := ⟨_, rfl⟩
 have hz : W1.heap.size = w.heap.size + 2 := by rw [hW1]; simp
 have hL1 : W1.heap[w.heap.size + 1]? = some (.loop (R5 .ready none)) := by
  have h := World.alloc_heap_new (w.alloc (.deferred (some []))) (.loop (R5 .ready none))
  rw [World.size_alloc] at h
  rw [hW1]
  exact h
 have hK1 : W1.heap[w.heap.size]? = some (.deferred (some [])) := by
  rw [hW1]
  exact (Below.heap_alloc _ _ _ (by simp)).trans (World.alloc_heap_new w _)
 have hI1 : I [] W1 := by rw [hW1]; exact hI.alloc _ (hI.alloc _ h0)
 have hb1 : Below w0.heap.size w0 W1 := by
  rw [hW1]
  exact hb0.trans ((((Below.refl _ w).alloc (Nat.le_refl _) _).alloc (by simp) _).mono hb0.size)
 refine ⟨w.heap.size + 1, [{ target := .collected w.heap.size, args := #[] }], W1, { target := .fn (.func gf) lb, args := #[.func (.yield (w.heap.size + 1)) #[] #[]] }, W1, gf, #[.func (.yield (w.heap.size + 1)) #[] #[]] ++ lb, W1, by rw [hW1]; exact run_enterLoop_outer _ _ _ _ _, by simp only [resolve, hg]; simp [go_sem], fun f' hf' => by simp [Target.leads] at hf'; subst hf'; exact hFg, by simp [invoke, go_sem, eg], fun _ => h1, ?_⟩
 have turn : ∀ {A : World} {row : Option Nat}, (∀ r, row = some r -> W1.heap.size <= r /\ ∃ o : Obj, A.heap[r]? = some o /\ o.isWalk = true) -> ∀ r, row = some r -> w.heap.size <= r /\ ∃ o : Obj, A.heap[r]? = some o /\ o.isCells = false := fun hr r e => by
  obtain ⟨hB, o, ho, hw⟩ := hr r e
  exact ⟨by omega, o, ho, Obj.not_cells_of_walk hw⟩
 have hcall := hseq (w.heap.size + 1)
  (fun pre W => I pre W /\ W.heap[w.heap.size + 1]? = some (.loop (R5 .ready none)) /\ W.heap[w.heap.size]? = some (.deferred (some [])))
  (fun pre W => ∃ c, Ix c pre W /\ W.heap[w.heap.size + 1]? = some (.loop (R5 .done (some c))) /\ W.heap[w.heap.size]? = some (.deferred (some [])))
  W1 hb1
  (fun s A B row hs hg' hr => ⟨hI s A B row hs.1 hg' (turn hr), (grownBy_keeps hg' (fun r e => (hr r e).2) hs.2.1 rfl).trans hs.2.1, (grownBy_keeps hg' (fun r e => (hr r e).2) hs.2.2 rfl).trans hs.2.2⟩)
  (fun s A B row hs hg' hr => by
    obtain ⟨c, hc, hl, hk⟩ := hs
    exact ⟨c, hIx c s A B row hc hg' (turn hr), (grownBy_keeps hg' (fun r e => (hr r e).2) hl rfl).trans hl, (grownBy_keeps hg' (fun r e => (hr r e).2) hk rfl).trans hk⟩)
  ?_ ⟨hI1, hL1, hK1⟩
 ·refine hcall.mono ?_
  rintro e W2 ⟨⟨v, rfl⟩, (⟨xs, hS, hi, hl, hk⟩ | ⟨pre, hSp, c, hi, hl, hk⟩)⟩
  ·exact ⟨none, _, run_endLoop (P := P) hl (by simp [R5, rec5]), hdone _ xs _ (Nat.le_refl _) hS (hI.putObj _ hi (by omega) hl rfl) ((World.putObj_heap_other (by omega)).trans hk)⟩
  ·exact ⟨some c, _, run_endLoop (P := P) hl (by simp [R5, rec5]), hstop _ c pre _ (Nat.le_refl _) hSp ((hIx c).putObj _ hi (by omega) hl rfl) ((World.putObj_heap_other (by omega)).trans hk)⟩
 ·rintro pre x W ⟨hi, hl, hk⟩ hG
  have hlt : w.heap.size + 1 < W.heap.size := (Array.getElem?_eq_some_iff.1 hl).1
  refine ⟨fn, _, assign, body, run_yield (P := P) (args := encs x) hl (hps x), roundIn_of_wpIn hfn (hassign _ x W _ ⟨_, run_beginRound hl rfl, ?_⟩)⟩
  obtain ⟨V, hV⟩ : ∃ V, V = W.putObj (w.heap.size + 1) (.loop (R5 .busy none)) := ⟨_, rfl⟩
  show Code.wpIn _ _ _ _ _ _ (W.putObj (w.heap.size + 1) (.loop (R5 .busy none)))
  rw [<- hV]
  have hl2 : V.heap[w.heap.size + 1]? = some (.loop (R5 .busy none)) := by rw [hV]; exact World.putObj_heap_same hlt
  have hk2 : V.heap[w.heap.size]? = some (.deferred (some [])) := by rw [hV]; exact (World.putObj_heap_other (by omega)).trans hk
  have hw2 : Kp W V := by rw [hV]; exact hKb _ _ _ _ (by omega) hl rfl rfl
  have hi2 : I pre V := by rw [hV]; exact hI.putObj _ hi (by omega) hl rfl
  have hG2 : Good pre x V := by rw [hV]; exact hGb _ _ _ _ _ _ (by omega) hl rfl hG
  have ends : ∀ (jump : Option Code) (W3 : World), KeepsFrom w.heap.size V W3 ->
   (Instr.endRound (w.heap.size + 1) jump).run P W3 = .ok (.bool jump.isNone) (W3.putObj (w.heap.size + 1) (.loop (R5 (if jump.isNone then .ready else .done) jump))) /\ W3.heap[w.heap.size + 1]? = some (.loop (R5 .busy none)) /\
   (W3.putObj (w.heap.size + 1) (.loop (R5 (if jump.isNone then .ready else .done) jump))).heap[w.heap.size + 1]? = some (.loop (R5 (if jump.isNone then .ready else .done) jump)) /\
   (W3.putObj (w.heap.size + 1) (.loop (R5 (if jump.isNone then .ready else .done) jump))).heap[w.heap.size]? = some (.deferred (some [])) := fun jump W3 hk3 => by
   have hl3 := hk3.same _ _ (by omega) hl2 rfl
   exact ⟨run_endRound (P := P) jump hl3, hl3, World.putObj_heap_same (Array.getElem?_eq_some_iff.1 hl3).1, (World.putObj_heap_other (by omega)).trans (hk3.same _ _ (Nat.le_refl _) hk2 rfl)⟩
  refine wpIn_mono (hbody _ pre x V hi2 hG2) ?_
  have left : ∀ (c : Code) (W3 : World), KeepsFrom w.heap.size V W3 -> Ix c (pre ++ [x]) W3 -> ∃ v W4, (Instr.endRound (w.heap.size + 1) (some c)).run P W3 = .ok v W4 /\ ((Ending.returned v = .returned (.bool true) /\ (I (pre ++ [x]) W4 /\ W4.heap[w.heap.size + 1]? = some (.loop (R5 .ready none)) /\ W4.heap[w.heap.size]? = some (.deferred (some []))) /\ Kp W W4) \/ (Ending.returned v = .returned (.bool false) /\ ∃ c, Ix c (pre ++ [x]) W4 /\ W4.heap[w.heap.size + 1]? = some (.loop (R5 .done (some c))) /\ W4.heap[w.heap.size]? = some (.deferred (some [])))) := fun c W3 hk3 hx3 => by
   obtain ⟨hr, hl3, hl4, hk4⟩ := ends (some c) W3 hk3
   exact ⟨_, _, hr, .inr ⟨rfl, c, (hIx _).putObj _ hx3 (by omega) hl3 rfl, hl4, hk4⟩⟩
  rintro e a3 W3 hp
  cases e with
  | normal =>
    obtain ⟨hk3, hkp3, hi3⟩ := hp
    obtain ⟨hr, hl3, hl4, hk4⟩ := ends none W3 hk3
    exact ⟨_, _, hr, .inl ⟨rfl, ⟨hI.putObj _ hi3 (by omega) hl3 rfl, hl4, hk4⟩, hKt (hKt hw2 hkp3) (hKb _ _ _ _ (by omega) hl3 rfl rfl)⟩⟩
  | ret => exact left .ret W3 hp.1 hp.2
  | exit id => exact left (.exit id) W3 hp.1 hp.2
  | goto t => exact left (.goto t) W3 hp.1 hp.2
  | panic ch => exact hp.elim
  | outgrown => exact hp.elim
end
end
section
open Go.RowKit Go.Maps Go.Shelf
attribute [local go_sem] Oper.semAt_some
def allV (bx : Nat) : Value := .func (.func 104) #[] #[.pointer (some ⟨bx, 0, none⟩)]
set_option maxRecDepth 100000 in
set_option maxHeartbeats 1000000 in
theorem allRow_any (b o d c : Nat) (w : World) : Calls Tryz.prog 35 #[rowV b o d c] w fun r w' => r = .returned (allV w.heap.size) /\ w' = w.alloc (.cells #[rowV b o d c] 82) := by
 unfold rowV allV
 go_enter Tryz.func35, Tryz.ntmps35
 go_wp2_with fail
 go_ret
 exact ⟨rfl, rfl⟩
def KpB (bx b : Nat) (W W' : World) : Prop := ∀ g, g = bx \/ g = b \/ g = 12 -> ∀ j v, W.cell? ⟨g, j, none⟩ = some v -> W'.cell? ⟨g, j, none⟩ = some v
theorem KpB.refl (bx b : Nat) (W : World) : KpB bx b W W := fun _ _ _ _ h => h
theorem KpB.trans {bx b : Nat} {A B C : World} (h : KpB bx b A B) (k : KpB bx b B C) : KpB bx b A C := fun g hg j v hv => k g hg j v (h g hg j v hv)
def GoodB (S : Nat -> Bool) (N : Nat) (pre : List Nat) (x : Nat) (_ : World) : Prop := pre = Br.els S x /\ x < N /\ S x = true
set_option maxRecDepth 100000 in
set_option maxHeartbeats 4000000 in
theorem row_tells (n : Nat) (b o d c bx : Nat) (S : Nat -> Bool) (w : World) (hd : d <= 10000) (hbx : w.cell? ⟨bx, 0, none⟩ = some (rowV b o d c)) (hR : RowAt w b o d S) (hT : TabW w) :
 Tells Fence.wide n Tryz.prog 104 #[.pointer (some ⟨bx, 0, none⟩)] (fun q : Nat => #[.int .i64 q]) (KpB bx b) (GoodB S (64 * d)) (fun xs => xs = Br.els S (64 * d)) (fun _ => True) w := by
 intro l J Jx W hW hJ hJx hY h0
 have c1 := (hW.cell (World.block_lt_of_cell? w _ hbx)).trans hbx
 have hRW := hR.below hW
 have hTW := hT.below hT.lt hW
 have HH : Hid _ := And.intro hJ (And.intro hJx (And.intro hY (And.intro h0 (And.intro hTW c1))))
 have HR : Hid (RowAt W b o d S) := hRW
 clear hW hJ hJx hY h0 hR hT hRW hTW hbx
 unfold rowV at c1
 refine callsIn_of_wp Tryz.func104 rfl trivial ?_ rfl
 simp only [Tryz.ntmps104, List.size_toArray, List.length_cons, List.length_nil, Nat.reduceAdd, Nat.reduceSub, Array.replicate_succ, Array.replicate_zero, List.push_toArray, List.append_toArray, List.nil_append, List.cons_append]
 gi_wp2
 clear c1
 gi_loopw [7] (fun iv wr => ∃ i : Nat, iv = .int .i64 i /\ i <= d /\ J (Br.els S (64 * i)) wr /\ KpB bx b W wr) (fun iv _ => d - (intOf iv).toNat)
 case atStart => exact ⟨0, rfl, Nat.zero_le _, HH.out.2.2.2.1, KpB.refl _ _ _⟩
 case round =>
  obtain ⟨i, rfl, hi, hJi, hK⟩ := hrel
  obtain ⟨wo, rfl⟩ : ∃ wo, wo = wr := ⟨_, rfl⟩
  by_cases hlt : i < d
  ·have c0 := hK b (.inr (.inl rfl)) _ _ (HR.out.cell hlt)
   have h0 : (0 : Int) <= (i : Int) := by omega
   have h1 : (i : Int) < (d : Int) := by omega
   have HI : Hid (J (Br.els S (64 * i)) wo /\ KpB bx b W wo) := ⟨hJi, hK⟩
   clear hJi hK
   gi_wp2
   gi_loopw [4] (fun wv wr => ∃ k : Nat, wv = .int .u64 (Br.wd (Br.frm S k) i : Nat) /\ 64 * i <= k /\ k <= 64 * (i + 1) /\ J (Br.els S k) wr /\ KpB bx b W wr) (fun wv _ => (intOf wv).toNat)
   case atStart =>
    refine ⟨64 * i, ?_, Nat.le_refl _, by omega, HI.out.1, HI.out.2⟩
    rw [Br.wd_congr (S := Br.frm S (64 * i)) (T := S)]
    intro q hq
    unfold Br.frm
    have : decide (64 * i <= q) = true := by simp; omega
    rw [this, Bool.and_true]
   case round =>
    obtain ⟨k, rfl, hk1, hk2, hJk, hKk⟩ := hrel
    obtain ⟨wi, rfl⟩ : ∃ wi, wi = wr := ⟨_, rfl⟩
    have HK : Hid (J (Br.els S k) wi /\ KpB bx b W wi /\ 64 * i <= k /\ k <= 64 * (i + 1)) := ⟨hJk, hKk, hk1, hk2⟩
    have hwl := Br.wd_lt (Br.frm S k) i
    obtain ⟨x, hx⟩ : ∃ x, x = Br.wd (Br.frm S k) i := ⟨_, rfl⟩
    rw [<- hx] at hwl ⊢
    have HX : Hid (x = Br.wd (Br.frm S k) i) := hx
    clear hJk hKk hk1 hk2 hx c0
    by_cases hz : x = 0
    ·subst hz
     gi_wp2
     go_roundw
     case rel =>
      refine ⟨i + 1, by go_num, by omega, ?_, HK.out.2.1⟩
      have h2 := (Br.wd_zero _ _).1 HX.out.symm
      rw [Br.els_skip HK.out.2.2.2 fun z hz1 hz2 => ?_]
      ·exact HK.out.1
      ·have h3 := h2 z (by have := HK.out.2.2.1; omega)
       unfold Br.frm at h3
       simpa [hz1] using h3
     case measure => simp [intOf]; omega
    ·have e1 : ((x : Int) != 0) = true := by rw [u64_ne0]; simp [hz]
     have h2 := Br.wd_low (S := S) (i := i) (k := k) (by rw [<- HX.out]; exact hz)
     rw [<- HX.out] at h2
     obtain ⟨q, hq1, hq2, hq3, hq4, hq5, hq6⟩ := h2
     have hTZ := tz_any x hz hwl wi (HH.out.2.2.2.2.1.cells fun j v hv => HK.out.2.1 _ (.inr (.inr rfl)) j v hv)
     have r1 : IntKind.i64.wrap ((i : Int) * 64 + (Lib.ctz 64 x : Nat)) = (q : Int) := by rw [IntKind.wrap_i64]; omega
     have r2 : (i : Int) * 64 + (Lib.ctz 64 x : Nat) = (q : Int) := by omega
     have hband : bits .and .u64 (x : Int) ((x : Int) - 1) = ((Br.wd (Br.frm S (q + 1)) i : Nat) : Int) := by
      rw [show (x : Int) - 1 = ((x - 1 : Nat) : Int) by omega, bits_and_u64_nat _ _ hwl (by omega), hq6]
     have hqd : q < 64 * d := by omega
     have hmeas : Br.wd (Br.frm S (q + 1)) i < x := by
      rw [<- hq6]
      exact Nat.lt_of_le_of_lt Nat.and_le_right (by omega)
     have HQ : Hid (64 * i <= q + 1 /\ q + 1 <= 64 * (i + 1) /\ k <= q /\ S q = true /\ Br.els S k = Br.els S q /\ Br.els S (q + 1) = Br.els S k ++ [q]) := by
      have hno : ∀ z, k <= z -> z < q -> S z = false := fun z h3 h4 => hq5 z (by have := HK.out.2.2.1; omega) h3 h4
      exact ⟨by omega, by omega, hq3, hq4, (Br.els_skip hq3 hno).symm, Br.els_next hq3 hno hq4⟩
     obtain ⟨fn, tmps, assign, body, hy, hRd⟩ := HH.out.2.2.1 (Br.els S k) q wi HK.out.1 ⟨HQ.out.2.2.2.2.1, hqd, HQ.out.2.2.2.1⟩
     have HTZ : Hid _ := hTZ
     have HB : Hid _ := And.intro hband hmeas
     clear hTZ hq1 hq2 hq3 hq4 hq5 hq6 hband hmeas
     gi_wp2_with (simp only [e1])
     refine ⟨trivial, fun h => (by cases h), (callsIn_wide.2 HTZ.out).mono ?_⟩
     rintro e W2 ⟨rfl, hw2⟩
     obtain rfl := hw2.symm
     clear hw2
     gi_wp2
     refine ⟨fun h => (by cases h), hRd.mono ?_⟩
     rintro e W3 (⟨rfl, hJ3, hk3⟩ | ⟨rfl, hJx3⟩)
     ·have H3 : Hid (J (Br.els S k ++ [q]) W3 /\ KpB bx b wi W3) := ⟨hJ3, hk3⟩
      clear hJ3 hk3 hRd hy HTZ
      gi_wp2
      go_roundw
      case rel =>
       exact ⟨q + 1, by rw [HB.out.1], HQ.out.1, HQ.out.2.1, by rw [HQ.out.2.2.2.2.2]; exact H3.out.1, HK.out.2.1.trans H3.out.2⟩
      case measure =>
       rw [HB.out.1]
       have := HB.out.2
       simp [intOf]; omega
     ·have H3 : Hid (Jx (Br.els S k ++ [q]) W3) := hJx3
      clear hJx3 hRd hy HTZ
      gi_wp2
      refine bodyPost_ret (results_none rfl _ _ _) rfl ?_
      exact ⟨⟨_, rfl⟩, .inr ⟨_, trivial, H3.out⟩⟩
  ·obtain rfl : i = d := by omega
   have h1 : ¬ (i : Int) < (i : Int) := by omega
   have HI : Hid (J (Br.els S (64 * i)) wo) := hJi
   clear hJi hK
   gi_wp2
   go_end0
   exact ⟨⟨_, rfl⟩, .inl HI.out⟩
end
section
open Go.RowKit Go.Maps Go.Shelf
def Marks (B : Nat) : List Deferred -> World -> Prop
 | [], _ => True
 | d :: ds, w => (∃ D, d = { target := .collected D, args := #[] } /\ B <= D /\ w.heap[D]? = some (.deferred (some [])) /\ ∀ e ∈ ds, e ≠ { target := .collected D, args := #[] }) /\ Marks B ds w
theorem Marks.keep {B : Nat} {w w' : World} : ∀ {ds : List Deferred}, Marks B ds w -> (∀ D, B <= D -> w.heap[D]? = some (.deferred (some [])) -> ({ target := .collected D, args := #[] } : Deferred) ∈ ds -> w'.heap[D]? = some (.deferred (some []))) -> Marks B ds w'
 | [], _, _ => trivial
 | d :: ds, h, k => by
   obtain ⟨⟨D, e, h1, h2, h3⟩, h4⟩ := h
   exact ⟨⟨D, e, h1, k D h1 h2 (by rw [e]; exact List.mem_cons_self), h3⟩, h4.keep fun D hD hd hm => k D hD hd (List.mem_cons_of_mem _ hm)⟩
theorem Marks.lt {B : Nat} {w : World} : ∀ {ds : List Deferred}, Marks B ds w -> ∀ D, ({ target := .collected D, args := #[] } : Deferred) ∈ ds -> B <= D /\ D < w.heap.size
 | [], _, _, hm => by simp at hm
 | d :: ds, h, D, hm => by
   obtain ⟨⟨D', e, h1, h2, _⟩, h4⟩ := h
   rcases List.mem_cons.1 hm with hm | hm
   ·rw [<- hm] at e
    injection e with e1 _
    injection e1 with e2
    subst e2
    exact ⟨h1, (Array.getElem?_eq_some_iff.1 h2).1⟩
   ·exact h4.lt D hm
theorem Marks.cons {B D : Nat} {w : World} {ds : List Deferred} (h : Marks B ds w) (hB : B <= D) (hD : w.heap[D]? = some (.deferred (some []))) (hn : ∀ E, ({ target := .collected E, args := #[] } : Deferred) ∈ ds -> E ≠ D) : Marks B ({ target := .collected D, args := #[] } :: ds) w :=
 ⟨⟨D, rfl, hB, hD, fun e he h => by subst h; exact hn D he rfl⟩, h⟩
theorem marks_leave {F : Fence} {n : Nat} {P : Program} {fn : Func} {tmps : Array Value} {R : Ending -> World -> Prop} {B : Nat} : ∀ (ds : List Deferred) (w : World), Marks B ds w -> (∀ w', Below B w w' -> (∀ (g : Nat) (cs : Array Value) (t : TypeId), w.heap[g]? = some (.cells cs t (0, 0)) -> w'.heap[g]? = some (.cells cs t (0, 0))) -> LeavesInM F n P fn tmps R [] .returning w') -> LeavesInM F n P fn tmps R ds .returning w
 | [], w, _, h => h w (Below.refl _ _) fun _ _ _ hg => hg
 | d :: ds, w, hM, h => by
   obtain ⟨⟨D, e, h1, h2, h3⟩, h4⟩ := hM
   have hlt := (Array.getElem?_eq_some_iff.1 h2).1
   have hg := grownBy_putObj' w D (.deferred none)
   have hb : Below B w (w.putObj D (.deferred none)) := (Below.refl B w).grown hg (by omega) (fun k e => by cases e; omega)
   refine ⟨by simp, .inl ⟨D, w.putObj D (.deferred none), by rw [e], run_takeDeferred h2, ?_⟩⟩
   refine marks_leave ds _ (h4.keep fun E hE hd hm => ?_) fun w' hw hc => h w' (hb.trans hw) fun g cs t hgc => hc g cs t ?_
   ·have hne : E ≠ D := fun e2 => by subst e2; exact h3 _ hm rfl
    rw [hg.block E (Array.getElem?_eq_some_iff.1 hd).1 (by intro e; injection e with e; exact hne e)]
    exact hd
   ·have hne : g ≠ D := fun e2 => by subst e2; rw [h2] at hgc; cases hgc
    rw [hg.block g (Array.getElem?_eq_some_iff.1 hgc).1 (by intro e; injection e with e; exact hne e)]
    exact hgc
end
section
open Go.RowKit Go.Maps Go.Shelf
attribute [local go_sem] Oper.semAt_some
theorem KpB.put {bx b B : Nat} (h1 : bx < B) (h2 : b < B) (h3 : 12 < B) (W : World) (l : Nat) (o' : Obj) (hl : B <= l) : KpB bx b W (W.putObj l o') := fun g hg j v hv => by
 have : g < B := by rcases hg with rfl | rfl | rfl <;> assumption
 exact (World.cell?_of_block (World.putObj_heap_other (by show g ≠ l; omega))).trans hv
end
end Go.Proofs.YthcpliinddjkhaaGreatDoor
