/- Texts of this claim, joined: WkBig, WkEnv, WkErr, WkAl, SyLent, WkStr, ErLaid, SyArgI, SyArg, WkLaid. -/
import Derived.Test.YthcpliinddjkhaaGreatDoorPart15
import Derived.Test.YthcpliinddjkhaaGreatDoorPart3
import Derived.Test.YthcpliinddjkhaaGreatDoorPart16
import Derived.Test.YthcpliinddjkhaaGreatDoorPart2
import Derived.Test.YthcpliinddjkhaaGreatDoorPart1
import Derived.Test.YthcpliinddjkhaaGreatDoorPart4
import Derived.Test.YthcpliinddjkhaaGreatDoorRows
import Derived.ProofKit
import Derived.LaidMore
import Derived.Stop.LaidErr
import Derived.Lib.SmallJoins
import Derived.Deep.Slices
import Derived.Lib.LaidTab
namespace Go.Proofs.YthcpliinddjkhaaGreatDoor
section
open Go.RowKit Go.Maps
attribute [local go_sem ↓] Go.wp_at_zero Go.wp_at_succ
set_option linter.unusedSimpArgs false in
set_option maxRecDepth 100000 in
set_option maxHeartbeats 8000000 in
theorem saturated_big (n kk s : Int) (ao : Option Addr) (L cap : Nat) (aE : Addr) (w : World) (B gt k m d : Nat) (ge gw : Nat -> Nat) (T : Nat -> Nat -> Nat -> Bool) (hE : Sent w 0 aE) (hd : d = Br.wds m) (hm : m <= 300) (hk : k <= 201) (hT : Tbl w B gt k m d ge gw T) (hb : ∀ a p q, a < k -> p < m -> T a p q = true -> q < m) (hsz : 10000 < szT T m k) :
 Calls Tryz.prog 37 #[.slice (some ⟨gt, 0, none⟩) k k, .agg #[.int .i64 n, .int .i64 kk, .int .i64 s, .slice ao L cap]] w fun r w' => ∃ b, r = .returned (.tuple #[.agg #[.int .i64 0, .int .i64 0, .int .i64 0, .slice none 0 0], .iface 92 (.pointer (some ⟨b, 0, none⟩))]) /\ Chain w' 0 0 aE [wkB] (.iface 92 (.pointer (some ⟨b, 0, none⟩))) /\ Below w.heap.size w w' := by
 have hSz := fun W (h : Below w.heap.size w W) => tsize_any W B gt k m d ge gw T hd hm hk (hT.below h) hb
 have H0 : Hid _ := And.intro hSz hE
 generalize szT T m k = N at H0 hsz
 clear hSz hE hT hb hd hm hk
 go_enter Tryz.func37, Tryz.ntmps37
 go_upto_region 1 with fail
 obtain ⟨w1, hw1⟩ : ∃ w1, w1 = (w.alloc (.cells #[.int .i64 n, .int .i64 kk, .int .i64 s, .slice ao L cap] 24)).alloc (.cells #[.int .i64 0, .int .i64 0, .int .i64 0, .slice none 0 0] 24) := ⟨_, rfl⟩
 have hb1 : Below w.heap.size w w1 := by rw [hw1]; exact ((Below.refl _ _).alloc (Nat.le_refl _) _).alloc (by simp) _
 have hg2 : w1.heap[w.heap.size + 1]? = some (.cells #[.int .i64 0, .int .i64 0, .int .i64 0, .slice none 0 0] 24 (0, 0)) := by rw [hw1]; exact two_alloc w _ _
 rw [<- hw1]
 have hsl := H0.out.2.below hb1
 have hs := hsl.1
 have hf := wfault_any 311 (.pointer (some aE)) w1 aE [] rfl
 have H1 : Hid _ := And.intro hb1 (And.intro hg2 (And.intro hf (H0.out.1 w1 hb1)))
 clear hw1 hb1 hg2 hsl hf
 have hN3 : (10000 : Int) < (N : Int) := by omega
 go_wp2_with fail
 refine Calls.mono H1.out.2.2.2 ?_
 rintro r w2 ⟨rfl, hw2⟩
 obtain rfl := hw2.symm
 clear hw2
 go_wp2_with fail
 refine Calls.mono H1.out.2.2.1 ?_
 rintro r w3 ⟨b3, rfl, hC3, hb3⟩
 have hg3 := wk_res hb3 H1.out.2.1
 obtain ⟨t0, t1, t2, t3⟩ := wk_cells hg3
 have z0 := blk_free hg3 0
 have z1 := blk_free hg3 1
 have z2 := blk_free hg3 2
 have z3 := blk_free hg3 3
 have H3 : Hid _ := And.intro hC3 (And.intro (wk_bel hb3 H1.out.1) hg3)
 clear hC3 hb3 hg3
 go_wp2_with fail
 have hgf := four_set (a0 := .int .i64 0) (a1 := .int .i64 0) (a2 := .int .i64 0) (a3 := .slice none 0 0) H3.out.2.2
 have hbf := four_below H3.out.2.1 (b := w.heap.size + 1) (by omega) (.int .i64 0) (.int .i64 0) (.int .i64 0) (.slice none 0 0)
 have hkf := (((Kept.setCell w3 (w.heap.size + 1) 0 (.int .i64 0)).trans (Kept.setCell _ (w.heap.size + 1) 1 (.int .i64 0))).trans (Kept.setCell _ (w.heap.size + 1) 2 (.int .i64 0))).trans (Kept.setCell _ (w.heap.size + 1) 3 (.slice none 0 0))
 have hcf := H3.out.1.keptF hkf fun b cs hb e => by
  subst e
  exact obj_not H3.out.2.2 (by decide) cs hb
 generalize ((((w3.setCell ⟨w.heap.size + 1, 0, none⟩ (.int .i64 0)).setCell ⟨w.heap.size + 1, 1, none⟩ (.int .i64 0)).setCell ⟨w.heap.size + 1, 2, none⟩ (.int .i64 0)).setCell ⟨w.heap.size + 1, 3, none⟩ (.slice none 0 0)) = wf at hgf hbf hkf hcf ⊢
 obtain ⟨c0, c1, c2, c3⟩ := wk_cells hgf
 exact bodyPost_ret (v := .tuple #[.agg #[.int .i64 0, .int .i64 0, .int .i64 0, .slice none 0 0], .iface 92 (.pointer (some ⟨b3, 0, none⟩))]) (by simp [results, Tryz.results37, go_sem, c0, c1, c2, c3]) rfl ⟨b3, rfl, hcf, hbf⟩
theorem satd_big (m kk : Nat) (s : Int) (ao : Option Addr) (cap : Nat) (es : List Sy.Ed) (aE : Addr) (w W : World) (gt : Nat) (ge gw : Nat -> Nat) (hE : Sent W 0 aE) (hq : Sy.right m kk s es = true) (hn : m <= 300) (hsz : 10000 < (Wk.sat es m kk).length) (hT : Tbl W w.heap.size gt kk m (Br.wds m) ge gw fun a => Wk.tbl es m a) :
 Calls Tryz.prog 37 #[.slice (some ⟨gt, 0, none⟩) kk kk, .agg #[.int .i64 m, .int .i64 kk, .int .i64 s, .slice ao es.length cap]] W fun r w' => ∃ b, r = .returned (.tuple #[.agg #[.int .i64 0, .int .i64 0, .int .i64 0, .slice none 0 0], .iface 92 (.pointer (some ⟨b, 0, none⟩))]) /\ Chain w' 0 0 aE [wkB] (.iface 92 (.pointer (some ⟨b, 0, none⟩))) /\ Below W.heap.size W w' := by
 have hI := Wk.in_right hq
 have hk : kk <= 201 := by unfold Sy.right at hq; simp only [Bool.and_eq_true, decide_eq_true_eq] at hq; omega
 exact saturated_big m kk s ao es.length cap aE W w.heap.size gt kk m (Br.wds m) ge gw (fun a => Wk.tbl es m a) hE rfl hn hk hT (fun a p q _ hp h => Wk.tbl_in hI hp h) (by rw [<- sat_len]; exact hsz)
theorem sat_into {es : List Sy.Ed} {m kk : Nat} (p : Nat) (hp : p < m) (b : Int) (X : Nat -> Prop) : Sg.into (fun i => Sy.rowOf m (Sy.nf (Wk.sat es m kk)) (i : Int)) X b p ↔ ∃ a q : Nat, b = (a : Int) /\ a < kk /\ q < m /\ Wk.tbl es m a p q = true /\ X q := by
 have hr : Sy.rowOf m (Sy.nf (Wk.sat es m kk)) (p : Int) = Sy.steps (Sy.nf (Wk.sat es m kk)) p := rowOf_in _ hp
 constructor
 ·rintro ⟨⟨z1, z2⟩, hz, e, hx⟩
  rw [show (fun i : Nat => Sy.rowOf m (Sy.nf (Wk.sat es m kk)) (i : Int)) p = Sy.rowOf m (Sy.nf (Wk.sat es m kk)) (p : Int) from rfl, hr, Sy.steps_mem, Sy.nf_mem] at hz
  obtain ⟨p', a, q, e2, _, ha, hq, ht⟩ := Wk.sat_mem.1 hz
  injection e2 with e3 e4
  injection e4 with e4 e5
  obtain rfl : p = p' := by omega
  subst e4; subst e5
  exact ⟨a, q, e.symm, ha, hq, ht, hx⟩
 ·rintro ⟨a, q, rfl, ha, hq, ht, hx⟩
  refine ⟨((a : Int), (q : Int)), ?_, rfl, hx⟩
  show _ ∈ Sy.rowOf m (Sy.nf (Wk.sat es m kk)) (p : Int)
  rw [hr, Sy.steps_mem, Sy.nf_mem]
  exact Wk.sat_mem.2 ⟨p, a, q, rfl, hp, ha, hq, ht⟩
theorem sat_fits {es : List Sy.Ed} {m kk : Nat} : Sg.Fits m (fun i => Sy.rowOf m (Sy.nf (Wk.sat es m kk)) (i : Int)) := fun p hp z hz => by
 obtain ⟨a, q, _, _, hq, _, e⟩ := (sat_into p hp z.1 (fun q => ((q : Int) = z.2 \/ z.2 < 0))).1 ⟨z, hz, rfl, by omega⟩
 have hr : Sy.rowOf m (Sy.nf (Wk.sat es m kk)) (p : Int) = Sy.steps (Sy.nf (Wk.sat es m kk)) p := rowOf_in _ hp
 have hz2 : (z.1, z.2) ∈ Sy.rowOf m (Sy.nf (Wk.sat es m kk)) (p : Int) := hz
 rw [hr, Sy.steps_mem, Sy.nf_mem] at hz2
 obtain ⟨p', a', q', e2, _, _, hq', _⟩ := Wk.sat_mem.1 hz2
 injection e2 with e3 e4
 injection e4 with e4 e5
 omega
set_option linter.unusedSimpArgs false in
set_option maxRecDepth 100000 in
set_option maxHeartbeats 8000000 in
theorem saturate_big (m kk : Nat) (s : Int) (v : Value) (es : List Sy.Ed) (a : Addr) (w : World) (aE : Addr) (hA : Sent w 11 a) (hE : Sent w 0 aE) (hv : BEdges.Has w v es) (hq : Sy.right m kk s es = true) (hn : m <= 300) (hsz : 10000 < (Wk.sat es m kk).length) :
 Calls Tryz.prog 14 #[sysV m kk s v] w fun r w' => ∃ b, r = .returned (.tuple #[.agg #[.int .i64 0, .int .i64 0, .int .i64 0, .slice none 0 0], .iface 92 (.pointer (some ⟨b, 0, none⟩))]) /\ Chain w' 0 0 aE [wkB] (.iface 92 (.pointer (some ⟨b, 0, none⟩))) /\ Below w.heap.size w w' := by
 have hv0 := hv
 obtain ⟨ao, cap, rfl, _⟩ := hv0
 obtain ⟨L, hL⟩ : ∃ L, L = es.length := ⟨_, rfl⟩
 obtain ⟨w1, hw1⟩ : ∃ w1, w1 = (w.alloc (.cells #[.int .i64 m, .int .i64 kk, .int .i64 s, .slice ao L cap] 24)).alloc (.cells #[.int .i64 0, .int .i64 0, .int .i64 0, .slice none 0 0] 24) := ⟨_, rfl⟩
 have hb1 : Below w.heap.size w w1 := by rw [hw1]; exact ((Below.refl _ _).alloc (Nat.le_refl _) _).alloc (by simp) _
 have hg1 : w1.heap[w.heap.size]? = some (.cells #[.int .i64 m, .int .i64 kk, .int .i64 s, .slice ao L cap] 24 (0, 0)) := by rw [hw1, Below.heap_alloc _ _ _ (by simp)]; exact heap_alloc_new w _
 have hg2 : w1.heap[w.heap.size + 1]? = some (.cells #[.int .i64 0, .int .i64 0, .int .i64 0, .slice none 0 0] 24 (0, 0)) := by rw [hw1]; exact two_alloc w _ _
 have hN := tableOf_ok m kk s _ es a w1 (hA.below hb1) (hv.below hb1) hq hn
 have hSd := fun (W : World) (gt : Nat) (ge gw : Nat -> Nat) (hb : Below w.heap.size w W) (hTb : Tbl W w1.heap.size gt kk m (Br.wds m) ge gw fun a => Wk.tbl es m a) => satd_big m kk s ao cap es aE w1 W gt ge gw (hE.below hb) hq hn hsz hTb
 rw [<- hL] at hN hSd ⊢
 unfold sysV at hN ⊢
 obtain ⟨x0, x1, x2, x3⟩ := wk_cells hg1
 have H1 : Hid _ := And.intro hN (And.intro hb1 (And.intro hw1 (And.intro hSd (And.intro hg1 hg2))))
 clear hA hE hv hq hN hb1 hw1 hL hSd hg1 hg2 hsz
 go_enter Tryz.func14, Tryz.ntmps14
 go_upto_region 1 with fail
 rw [<- H1.out.2.2.1]
 go_wp2_with fail
 refine Calls.mono H1.out.1 ?_
 rintro r w2 ⟨gt, ge, gw, rfl, hTb, hb2⟩
 have hSd := H1.out.2.2.2.1 w2 gt ge gw (wk_bel hb2 H1.out.2.1) hTb
 have H2 : Hid _ := And.intro hb2 hSd
 clear hTb hSd x0 x1 x2 x3
 obtain ⟨x0, x1, x2, x3⟩ := wk_cells (wk_res hb2 H1.out.2.2.2.2.1)
 clear hb2
 go_wp2_with fail
 refine Calls.mono H2.out.2 ?_
 rintro r w3 ⟨b3, rfl, hC3, hb3⟩
 have hg3 := wk_res hb3 (wk_res H2.out.1 H1.out.2.2.2.2.2)
 obtain ⟨t0, t1, t2, t3⟩ := wk_cells hg3
 have z0 := blk_free hg3 0
 have z1 := blk_free hg3 1
 have z2 := blk_free hg3 2
 have z3 := blk_free hg3 3
 have H3 : Hid _ := And.intro hC3 (And.intro (wk_bel hb3 (wk_bel H2.out.1 H1.out.2.1)) (And.intro hg3 (Nat.le_trans H1.out.2.1.size H2.out.1.size)))
 clear hC3 hb3 hg3 x0 x1 x2 x3
 go_wp2_with fail
 have hgf := four_set (a0 := .int .i64 0) (a1 := .int .i64 0) (a2 := .int .i64 0) (a3 := .slice none 0 0) H3.out.2.2.1
 have hbf := four_below H3.out.2.1 (b := w.heap.size + 1) (by omega) (.int .i64 0) (.int .i64 0) (.int .i64 0) (.slice none 0 0)
 have hkf := (((Kept.setCell w3 (w.heap.size + 1) 0 (.int .i64 0)).trans (Kept.setCell _ (w.heap.size + 1) 1 (.int .i64 0))).trans (Kept.setCell _ (w.heap.size + 1) 2 (.int .i64 0))).trans (Kept.setCell _ (w.heap.size + 1) 3 (.slice none 0 0))
 have hcf := H3.out.1.keptF hkf fun b cs hb e => by
  subst e
  exact obj_not H3.out.2.2.1 (by decide) cs hb
 generalize ((((w3.setCell ⟨w.heap.size + 1, 0, none⟩ (.int .i64 0)).setCell ⟨w.heap.size + 1, 1, none⟩ (.int .i64 0)).setCell ⟨w.heap.size + 1, 2, none⟩ (.int .i64 0)).setCell ⟨w.heap.size + 1, 3, none⟩ (.slice none 0 0)) = wf at hgf hbf hkf hcf ⊢
 obtain ⟨c0, c1, c2, c3⟩ := wk_cells hgf
 exact bodyPost_ret (v := .tuple #[.agg #[.int .i64 0, .int .i64 0, .int .i64 0, .slice none 0 0], .iface 92 (.pointer (some ⟨b3, 0, none⟩))]) (by simp [results, Tryz.results14, go_sem, c0, c1, c2, c3]) rfl ⟨b3, rfl, hcf, hbf⟩
set_option linter.unusedSimpArgs false in
set_option maxRecDepth 100000 in
set_option maxHeartbeats 8000000 in
theorem wclasses_big (m kk : Nat) (s : Int) (v : Value) (es : List Sy.Ed) (a aE : Addr) (w : World) (hA : Sent w 11 a) (hE : Sent w 0 aE) (hT : TabW w) (hv : BEdges.Has w v es) (hq : Sy.right m kk s es = true) (hn : m <= 300) (hsz : 10000 < (Wk.sat es m kk).length) :
 Calls Tryz.prog 24 #[sysV m kk s v] w fun r w' => ∃ u R, r = .returned (.tuple #[u, .nilIface]) /\ Ro.Last m (fun i => Sy.rowOf m (Sy.nf (Wk.sat es m kk)) (i : Int)) R /\ OwnI w' w.heap.size u (natI (Ro.rnd m (fun i => Sy.rowOf m (Sy.nf (Wk.sat es m kk)) (i : Int)) R)) /\ Below w.heap.size w w' := by
 obtain ⟨R, hR⟩ := Ro.exists_last m (fun i => Sy.rowOf m (Sy.nf (Wk.sat es m kk)) (i : Int))
 have hv0 := hv
 obtain ⟨ao, cap, rfl, _⟩ := hv0
 obtain ⟨L, hL⟩ : ∃ L, L = es.length := ⟨_, rfl⟩
 obtain ⟨w1, hw1⟩ : ∃ w1, w1 = w.alloc (.cells #[.int .i64 m, .int .i64 kk, .int .i64 s, .slice ao L cap] 24) := ⟨_, rfl⟩
 have hb1 : Below w.heap.size w w1 := by rw [hw1]; exact (Below.refl _ _).alloc (Nat.le_refl _) _
 have hg1 : w1.heap[w.heap.size]? = some (.cells #[.int .i64 m, .int .i64 kk, .int .i64 s, .slice ao L cap] 24 (0, 0)) := by rw [hw1]; exact heap_alloc_new w _
 have hI := Wk.in_right hq
 have hk : kk <= 201 := by unfold Sy.right at hq; simp only [Bool.and_eq_true, decide_eq_true_eq] at hq; omega
 have hm0 : 0 < m := by
  rcases Nat.eq_zero_or_pos m with h | h
  ·subst h
   have : Wk.sat es 0 kk = [] := rfl
   rw [this] at hsz
   simp at hsz
  ·exact h
 have hN := tableOf_ok m kk s _ es a w1 (hA.below hb1) (hv.below hb1) hq hn
 have hSd := fun (W : World) (gt : Nat) (ge gw : Nat -> Nat) (hb : Below w.heap.size w W) (hTb : Tbl W w1.heap.size gt kk m (Br.wds m) ge gw fun a => Wk.tbl es m a) => satd_big m kk s ao cap es aE w1 W gt ge gw (hE.below hb) hq hn hsz hTb
 have hPc := fun (W : World) (gt : Nat) (ge gw : Nat -> Nat) (hb : Below w.heap.size w W) (hTb : Tbl W w1.heap.size gt kk m (Br.wds m) ge gw fun a => Wk.tbl es m a) => pclasses_any W w1.heap.size gt kk m (Br.wds m) R ge gw (fun a => Wk.tbl es m a) (fun i => Sy.rowOf m (Sy.nf (Wk.sat es m kk)) (i : Int)) hTb (hT.below hT.lt hb) rfl hm0 hn hk (fun a p q _ hp h => Wk.tbl_in hI hp h) sat_fits hR sat_into
 obtain ⟨c, hc⟩ : ∃ c, c = Ro.rnd m (fun i => Sy.rowOf m (Sy.nf (Wk.sat es m kk)) (i : Int)) R := ⟨_, rfl⟩
 rw [<- hc] at hPc
 rw [<- hL] at hN hSd ⊢
 unfold sysV at hN ⊢
 obtain ⟨x0, x1, x2, x3⟩ := wk_cells hg1
 have H1 : Hid _ := And.intro hN (And.intro hb1 (And.intro hw1 (And.intro hSd (And.intro hg1 (And.intro hPc (And.intro hE (And.intro hR hc)))))))
 clear hA hE hT hv hq hN hb1 hw1 hL hSd hg1 hsz hPc hI hR hc hk
 go_enter Tryz.func24, Tryz.ntmps24
 go_upto_region 1 with fail
 rw [<- H1.out.2.2.1]
 go_wp2_with fail
 refine Calls.mono H1.out.1 ?_
 rintro r w2 ⟨gt, ge, gw, rfl, hTb, hb2⟩
 have hSd := H1.out.2.2.2.1 w2 gt ge gw (wk_bel hb2 H1.out.2.1) hTb
 have H2 : Hid _ := And.intro hb2 (And.intro hSd hTb)
 clear hTb hSd x0 x1 x2 x3
 obtain ⟨x0, x1, x2, x3⟩ := wk_cells (wk_res hb2 H1.out.2.2.2.2.1)
 clear hb2
 go_wp2_with fail
 refine Calls.mono H2.out.2.1 ?_
 rintro r w3 ⟨b3, rfl, hC3, hb3⟩
 obtain ⟨w4, hw4⟩ : ∃ w4, w4 = w3.alloc (.cells #[.int .i64 0, .int .i64 0, .int .i64 0, .slice none 0 0] 24) := ⟨_, rfl⟩
 have hb4 : Below w3.heap.size w3 w4 := by rw [hw4]; exact (Below.refl _ _).alloc (Nat.le_refl _) _
 have hb24 : Below w2.heap.size w2 w4 := wk_bel hb4 hb3
 have hb04 := wk_bel hb24 (wk_bel H2.out.1 H1.out.2.1)
 have hE4 := H1.out.2.2.2.2.2.2.1.below hb04
 obtain ⟨hs, cs4, t4, hcs4⟩ := hE4
 have hIs := is_chain _ [wkB] 0 0 aE aE cs4 cs4 t4 t4 w4 (hC3.below hb4) hcs4 hcs4
 rw [decide_eq_true rfl] at hIs
 have hPc4 := H1.out.2.2.2.2.2.1 w4 gt ge gw hb04 (H2.out.2.2.below hb24)
 have hg4 := wk_res hb24 (wk_res H2.out.1 H1.out.2.2.2.2.1)
 have H4 : Hid _ := And.intro hw4 (And.intro hIs (And.intro hPc4 hb04))
 clear hC3 hb3 hw4 hb4 hb24 hb04 hIs hPc4 hcs4 x0 x1 x2 x3
 go_upto_region 5 with fail
 rw [<- H4.out.1]
 obtain ⟨x0, x1, x2, x3⟩ := wk_cells hg4
 clear hg4
 go_wp2_with fail
 refine Calls.mono H4.out.2.1 ?_
 rintro r w5 ⟨rfl, hw5⟩
 obtain rfl := hw5.symm
 clear hw5
 go_wp2_with fail
 refine Calls.mono H4.out.2.2.1 ?_
 rintro r w6 ⟨uc, rfl, hOc, hb6⟩
 have H6 : Hid _ := And.intro hOc hb6
 clear hOc hb6
 go_wp2_with fail
 go_ret2
 refine ⟨_, R, rfl, H1.out.2.2.2.2.2.2.2.1, ?_, H4.out.2.2.2.trans (H6.out.2.mono H4.out.2.2.2.size)⟩
 rw [<- H1.out.2.2.2.2.2.2.2.2]
 exact row_base H6.out.1 H4.out.2.2.2.size
end
section
open Go.RowKit Go.Maps
structure EnvW (w : World) (aS aE : Addr) : Prop where
 sy : Sent w 11 aS
 ed : Sent w 0 aE
 tab : TabW w
theorem EnvW.below {w w' : World} {aS aE : Addr} (h : EnvW w aS aE) (hb : Below w.heap.size w w') : EnvW w' aS aE := ⟨h.sy.below hb, h.ed.below hb, h.tab.below h.tab.lt hb⟩
end
section
open Go.RowKit Go.Maps
attribute [local go_sem ↓] Go.wp_at_zero Go.wp_at_succ
def zSys : Value := .agg #[.int .i64 0, .int .i64 0, .int .i64 0, .slice none 0 0]
set_option linter.unusedSimpArgs false in
set_option maxRecDepth 100000 in
set_option maxHeartbeats 4000000 in
theorem saturate_bad (n k s : Int) (v : Value) (es : List Sy.Ed) (aE : Addr) (ls : List ByteArray) (w0 : World) (hv0 : BEdges.Has w0 v es) (hN0 : WkBadC 36 n k s v aE ls (.slice none 0 0) w0) : WkBadC 14 n k s v aE ls zSys w0 := by
 intro w hb0
 obtain ⟨ao, cap, rfl, _⟩ := hv0
 obtain ⟨L, hL⟩ : ∃ L, L = es.length := ⟨_, rfl⟩
 obtain ⟨w1, hw1⟩ : ∃ w1, w1 = (w.alloc (.cells #[.int .i64 n, .int .i64 k, .int .i64 s, .slice ao L cap] 24)).alloc (.cells #[.int .i64 0, .int .i64 0, .int .i64 0, .slice none 0 0] 24) := ⟨_, rfl⟩
 have hb1 : Below w.heap.size w w1 := by rw [hw1]; exact ((Below.refl _ _).alloc (Nat.le_refl _) _).alloc (by simp) _
 have hg1 : w1.heap[w.heap.size]? = some (.cells #[.int .i64 n, .int .i64 k, .int .i64 s, .slice ao L cap] 24 (0, 0)) := by rw [hw1, Below.heap_alloc _ _ _ (by simp)]; exact heap_alloc_new w _
 have hg2 : w1.heap[w.heap.size + 1]? = some (.cells #[.int .i64 0, .int .i64 0, .int .i64 0, .slice none 0 0] 24 (0, 0)) := by rw [hw1]; exact two_alloc w _ _
 obtain ⟨x0, x1, x2, x3⟩ := wk_cells hg1
 have hC := hN0 w1 (wk_bel hb1 hb0)
 rw [<- hL] at hC ⊢
 unfold sysV at hC ⊢
 have H1 : Hid _ := And.intro hC (And.intro hb1 (And.intro hw1 hg2))
 clear hN0 hb0 hC hb1 hw1 hL hg1 hg2
 go_enter Tryz.func14, Tryz.ntmps14
 go_upto_region 1 with fail
 rw [<- H1.out.2.2.1]
 go_wp2_with fail
 refine Calls.mono H1.out.1 ?_
 rintro r w3 ⟨b3, rfl, hC3, hb3⟩
 have hg3 := wk_res hb3 H1.out.2.2.2
 obtain ⟨t0, t1, t2, t3⟩ := wk_cells hg3
 have z0 := blk_free hg3 0
 have z1 := blk_free hg3 1
 have z2 := blk_free hg3 2
 have z3 := blk_free hg3 3
 have H3 : Hid _ := And.intro hC3 (And.intro (wk_bel hb3 H1.out.2.1) hg3)
 clear hC3 hb3 hg3 x0 x1 x2 x3
 go_wp2_with fail
 have hgf := four_set (a0 := .int .i64 0) (a1 := .int .i64 0) (a2 := .int .i64 0) (a3 := .slice none 0 0) H3.out.2.2
 have hbf := four_below H3.out.2.1 (b := w.heap.size + 1) (by omega) (.int .i64 0) (.int .i64 0) (.int .i64 0) (.slice none 0 0)
 have hkf := (((Kept.setCell w3 (w.heap.size + 1) 0 (.int .i64 0)).trans (Kept.setCell _ (w.heap.size + 1) 1 (.int .i64 0))).trans (Kept.setCell _ (w.heap.size + 1) 2 (.int .i64 0))).trans (Kept.setCell _ (w.heap.size + 1) 3 (.slice none 0 0))
 have hcf := H3.out.1.keptF hkf fun b cs hb e => by
  subst e
  exact obj_not H3.out.2.2 (by decide) cs hb
 generalize ((((w3.setCell ⟨w.heap.size + 1, 0, none⟩ (.int .i64 0)).setCell ⟨w.heap.size + 1, 1, none⟩ (.int .i64 0)).setCell ⟨w.heap.size + 1, 2, none⟩ (.int .i64 0)).setCell ⟨w.heap.size + 1, 3, none⟩ (.slice none 0 0)) = wf at hgf hbf hkf hcf ⊢
 obtain ⟨c0, c1, c2, c3⟩ := wk_cells hgf
 exact bodyPost_ret (v := .tuple #[.agg #[.int .i64 0, .int .i64 0, .int .i64 0, .slice none 0 0], .iface 92 (.pointer (some ⟨b3, 0, none⟩))]) (by simp [results, Tryz.results14, go_sem, c0, c1, c2, c3]) rfl ⟨b3, rfl, hcf, hbf⟩
set_option maxRecDepth 100000 in
set_option maxHeartbeats 4000000 in
theorem wclasses_bad (n k s : Int) (v : Value) (es : List Sy.Ed) (aE : Addr) (ls : List ByteArray) (w0 : World) (hv0 : BEdges.Has w0 v es) (hN0 : WkBadC 36 n k s v aE ls (.slice none 0 0) w0) : WkBadC 24 n k s v aE ls (.slice none 0 0) w0 := by
 intro w hb0
 obtain ⟨ao, cap, rfl, _⟩ := hv0
 obtain ⟨L, hL⟩ : ∃ L, L = es.length := ⟨_, rfl⟩
 obtain ⟨w1, hw1⟩ : ∃ w1, w1 = w.alloc (.cells #[.int .i64 n, .int .i64 k, .int .i64 s, .slice ao L cap] 24) := ⟨_, rfl⟩
 have hb1 : Below w.heap.size w w1 := by rw [hw1]; exact (Below.refl _ _).alloc (Nat.le_refl _) _
 have hg1 : w1.heap[w.heap.size]? = some (.cells #[.int .i64 n, .int .i64 k, .int .i64 s, .slice ao L cap] 24 (0, 0)) := by rw [hw1]; exact heap_alloc_new w _
 obtain ⟨x0, x1, x2, x3⟩ := wk_cells hg1
 have hC := hN0 w1 (wk_bel hb1 hb0)
 rw [<- hL] at hC ⊢
 unfold sysV at hC ⊢
 have H1 : Hid _ := And.intro hC (And.intro hb1 hw1)
 clear hN0 hb0 hC hb1 hw1 hL hg1
 go_enter Tryz.func24, Tryz.ntmps24
 go_upto_region 1 with fail
 rw [<- H1.out.2.2]
 go_wp2_with fail
 refine Calls.mono H1.out.1 ?_
 rintro r w2 ⟨b2, rfl, hC2, hb2⟩
 have H2 : Hid _ := And.intro hC2 hb2
 clear hC2 hb2
 go_wp2_with fail
 go_ret2
 exact ⟨b2, rfl, H2.out.1, H1.out.2.1.trans (H2.out.2.mono H1.out.2.1.size)⟩
theorem wclasses_any (hS : SortOk 1000000) (m kk : Nat) (s : Int) (v : Value) (es : List Sy.Ed) (a aE : Addr) (w : World) (hE : EnvW w a aE) (hv : BEdges.Has w v es) (hq : Sy.right m kk s es = true) (hn : m <= 300) :
 Calls Tryz.prog 24 #[sysV m kk s v] w fun r w' => ∃ u R, r = .returned (.tuple #[u, .nilIface]) /\ Ro.Last m (fun i => Sy.rowOf m (Sy.nf (Wk.sat es m kk)) (i : Int)) R /\ OwnI w' w.heap.size u (natI (Ro.rnd m (fun i => Sy.rowOf m (Sy.nf (Wk.sat es m kk)) (i : Int)) R)) /\ Below w.heap.size w w' := by
 rcases Nat.lt_or_ge 10000 (Wk.sat es m kk).length with h | h
 ·exact wclasses_big m kk s v es a aE w hE.sy hE.ed hE.tab hv hq hn h
 ·exact wclasses_ok hS m kk s v es a aE w hE.sy hE.ed hE.tab hv hq hn h
end
section
open Go.RowKit Go.Maps
attribute [local go_sem ↓] Go.wp_at_zero Go.wp_at_succ
def esW13 : List Sy.Ed := [(0, 0, 1), (1, 1, 2), (3, 1, 2)]
theorem esW13_right : Sy.right ((4 : Nat) : Int) ((2 : Nat) : Int) 0 esW13 = true := by decide
theorem esW13_sat : Wk.sat esW13 4 2 = [(0, 0, 0), (0, 0, 1), (0, 1, 2), (1, 0, 1), (1, 1, 2), (2, 0, 2), (3, 0, 3), (3, 1, 2)] := by decide
theorem esW13_last : Ro.Last 4 (fun i => Sy.rowOf 4 (Sy.nf (Wk.sat esW13 4 2)) (i : Int)) 1 := by
 rw [esW13_sat]
 refine ⟨by decide, fun j hj => ?_⟩
 match j, hj with
 | 0, _ => decide
theorem esW13_rnd : natI (Ro.rnd 4 (fun i => Sy.rowOf 4 (Sy.nf (Wk.sat esW13 4 2)) (i : Int)) 1) = [0, 0, 1, 0] := by
 rw [esW13_sat]
 decide
theorem esW13_has (w : World) : BEdges.Has (w.alloc (.cells #[.int .i64 0, .int .i64 0, .int .i64 1, .int .i64 1, .int .i64 1, .int .i64 2, .int .i64 3, .int .i64 1, .int .i64 2] 70)) (.slice (some ⟨w.heap.size, 0, none⟩) 3 3) esW13 := by
 refine ⟨some ⟨w.heap.size, 0, none⟩, 3, rfl, fun j u hj => ⟨_, rfl, ?_⟩⟩
 rw [addz]
 refine cell0_of (heap_alloc_new w _) ?_
 rw [<- Array.getElem?_toList]
 exact hj
set_option maxRecDepth 100000 in
set_option maxHeartbeats 4000000 in
theorem alive13_any (hS : SortOk 1000000) (aS aE : Addr) (W : World) (hE : EnvW W aS aE) : Calls Tryz.prog 9 #[] W fun r w' => r = .returned (.bool true) /\ Below W.heap.size W w' := by
 obtain ⟨w1, hw1⟩ : ∃ w1, w1 = W.alloc (.cells #[.int .i64 0, .int .i64 0, .int .i64 1, .int .i64 1, .int .i64 1, .int .i64 2, .int .i64 3, .int .i64 1, .int .i64 2] 70) := ⟨_, rfl⟩
 have hb1 : Below W.heap.size W w1 := by rw [hw1]; exact (Below.refl _ _).alloc (Nat.le_refl _) _
 have hv := esW13_has W
 rw [<- hw1] at hv
 obtain ⟨w2, hw2⟩ : ∃ w2, w2 = w1.alloc (.cells #[.int .i64 4, .int .i64 2, .int .i64 0, .slice (some ⟨W.heap.size, 0, none⟩) 3 3] 24) := ⟨_, rfl⟩
 have hb2 : Below w1.heap.size w1 w2 := by rw [hw2]; exact (Below.refl _ _).alloc (Nat.le_refl _) _
 have hg2 : w2.heap[w1.heap.size]? = some (.cells #[.int .i64 4, .int .i64 2, .int .i64 0, .slice (some ⟨W.heap.size, 0, none⟩) 3 3] 24 (0, 0)) := by rw [hw2]; exact heap_alloc_new w1 _
 have hbW : Below W.heap.size W w2 := hb1.trans (hb2.mono hb1.size)
 have hsl : (Wk.sat esW13 4 2).length <= 10000 := by rw [esW13_sat]; decide
 have hCl := fun W4 (h4 : Below w2.heap.size w2 W4) => wclasses_ok hS 4 2 0 (.slice (some ⟨W.heap.size, 0, none⟩) 3 3) esW13 aS aE W4 ((hE.below hbW).below h4).sy ((hE.below hbW).below h4).ed ((hE.below hbW).below h4).tab ((hv.below hb2).below h4) esW13_right (by decide) hsl
 have hSa := fun W4 (h4 : Below w2.heap.size w2 W4) => saturate_ok 4 2 0 (.slice (some ⟨W.heap.size, 0, none⟩) 3 3) esW13 aS W4 ((hE.below hbW).below h4).sy ((hE.below hbW).below h4).tab ((hv.below hb2).below h4) esW13_right (by decide) hsl
 unfold sysV at hCl hSa
 have hsz : w1.heap.size = W.heap.size + 1 := by rw [hw1]; simp
 have H1 : Hid _ := And.intro hw2 (And.intro hw1 (And.intro hg2 (And.intro hCl (And.intro hbW hSa))))
 obtain ⟨x0, x1, x2, x3⟩ := wk_cells hg2
 clear hw1 hb1 hv hw2 hb2 hg2 hbW hCl hE hSa hsl
 go_enter Tryz.func9, Tryz.ntmps9
 go_upto_region 2 with fail
 rw [<- H1.out.2.1, <- H1.out.1]
 rw [hsz] at x0 x1 x2 x3
 go_wp2_with fail
 refine Calls.mono (H1.out.2.2.2.1 w2 (Below.refl _ _)) ?_
 rintro r w3 ⟨u3, R, rfl, hR, hO3, hb3⟩
 obtain rfl : R = 1 := hR.unique esW13_last
 rw [esW13_rnd] at hO3
 obtain ⟨a3', c3, hu3⟩ := row_shape hO3
 simp only [List.length_cons, List.length_nil] at hu3
 subst hu3
 have hg3 := wk_res hb3 H1.out.2.2.1
 rw [hsz] at hg3
 obtain ⟨gs3, hga, hl3⟩ := own_num hO3 (j := 3) (z := 0) rfl
 have hl2 := own_num hO3 (j := 2) (z := 1) rfl
 obtain ⟨gs2, hga2, hl2⟩ := hl2
 have hgg : gs2 = gs3 := by rw [hga] at hga2; injection hga2 with e; injection e with e; exact e.symm
 subst hgg
 subst hga
 have H3 : Hid _ := And.intro hb3 (And.intro hl3 hl2)
 clear x0 x1 x2 x3 hR hO3 hb3 hl3 hl2 hga2
 obtain ⟨x0, x1, x2, x3⟩ := wk_cells hg3
 clear hg3
 go_wp2_with fail
 refine Calls.mono (H1.out.2.2.2.2.2 w3 H3.out.1) ?_
 rintro r w5 ⟨u5, rfl, hO5, hb5⟩
 rw [esW13_sat] at hO5
 obtain ⟨a5, c5, hu5⟩ := row_shape hO5
 simp only [List.length_cons, List.length_nil] at hu5
 subst hu5
 obtain ⟨w6, hw6⟩ : ∃ w6, w6 = w5.alloc (.cells #[.int .i64 4, .int .i64 2, .int .i64 0, .slice a5 8 c5] 24) := ⟨_, rfl⟩
 have hb6 : Below w5.heap.size w5 w6 := by rw [hw6]; exact (Below.refl _ _).alloc (Nat.le_refl _) _
 have hg6 : w6.heap[w5.heap.size]? = some (.cells #[.int .i64 4, .int .i64 2, .int .i64 0, .slice a5 8 c5] 24 (0, 0)) := by rw [hw6]; exact heap_alloc_new w5 _
 have l3 := cell_up (cell_up H3.out.2.1 hb5) hb6
 have l2 := cell_up (cell_up H3.out.2.2 hb5) hb6
 obtain ⟨y0, y1, y2, y3⟩ := wk_cells hg6
 have H5 : Hid _ := And.intro hb5 (And.intro hw6 hb6)
 clear hO5 hb5 x0 x1 x2 x3 hg6 hw6 hb6
 go_upto_region 4 with fail
 rw [<- H5.out.2.1]
 go_wp2_with fail
 go_ret
 have h6 : Below W.heap.size W w3 := H1.out.2.2.2.2.1.trans (H3.out.1.mono H1.out.2.2.2.2.1.size)
 have h7 := h6.trans (H5.out.1.mono h6.size)
 exact ⟨rfl, h7.trans (H5.out.2.2.mono h7.size)⟩
end
section
open Go.RowKit Go.Maps
attribute [local go_sem ↓] Go.wp_at_zero Go.wp_at_succ
set_option maxRecDepth 100000 in
set_option maxHeartbeats 2000000 in
theorem sameSystem_b (n k s : Int) (va vb : Value) (es : List Sy.Ed) (w : World) (hn : es.length <= 1000000) (hA : BEdges.Has w va es) (hB : BEdges.Has w vb es) :
 Calls Tryz.prog 17 #[sysV n k s va, sysV n k s vb] w fun e w' => e = .returned (.bool true) /\ Below w.heap.size w w' := by
 obtain ⟨w1, hw1⟩ : ∃ w1, w1 = (w.alloc (.cells #[.int .i64 n, .int .i64 k, .int .i64 s, va] 24)).alloc (.cells #[.int .i64 n, .int .i64 k, .int .i64 s, vb] 24) := ⟨_, rfl⟩
 have hb1 : Below w.heap.size w w1 := by rw [hw1]; exact ((Below.refl _ _).alloc (Nat.le_refl _) _).alloc (by simp) _
 have H1 : Hid _ := And.intro (BEdges.same_b va vb es w1 (by omega) (hA.below hb1) (hB.below hb1)) (And.intro hb1 hw1)
 obtain ⟨ao, cap, rfl, _⟩ := hA
 obtain ⟨bo, cbp, rfl, _⟩ := hB
 unfold sysV
 have nn : ¬ w.heap.size + 1 = w.heap.size := by omega
 clear hb1 hw1
 go_enter Tryz.func17, Tryz.ntmps17
 go_wp2_with fail
 rw [<- H1.out.2.2]
 refine Calls.mono H1.out.1 ?_
 rintro e w2 ⟨rfl, hb2⟩
 have H2 : Hid _ := H1.out.2.1.trans (hb2.mono H1.out.2.1.size)
 clear hb2
 go_wp2_with fail
 go_ret
 exact ⟨rfl, H2.out⟩
def mk3 : List Sy.Ed := [(-7, 0, 0), (-7, 1, 0), (-7, 2, 0)]
def LentE (w : World) (B : Nat) (u : Value) (es : List Sy.Ed) : Prop := ∃ g cap, u = .slice (some ⟨g, 0, none⟩) es.length cap /\ es.length + 3 <= cap /\ BEdges.Own w B (.slice (some ⟨g, 0, none⟩) (es.length + 3) cap) (es ++ mk3)
end
section
open Go.RowKit Go.Maps
attribute [local go_sem ↓] Go.wp_at_zero Go.wp_at_succ
set_option linter.unusedSimpArgs false in
set_option maxRecDepth 100000 in
set_option maxHeartbeats 16000000 in
theorem lawWStrong_any (hS : SortOk 1000000) (n k s : Int) (v : Value) (es : List Sy.Ed) (aS aE : Addr) (w : World) (hE : EnvW w aS aE) (hv : BEdges.Has w v es) :
 Calls Tryz.prog 6 #[sysV n k s v] w fun r w' => r = .returned (.bool true) /\ Below w.heap.size w w' := by
 have hv0 := hv
 obtain ⟨ao, cap, rfl, _⟩ := hv0
 obtain ⟨L, hL⟩ : ∃ L, L = es.length := ⟨_, rfl⟩
 obtain ⟨w1, hw1⟩ : ∃ w1, w1 = w.alloc (.cells #[.int .i64 n, .int .i64 k, .int .i64 s, .slice ao L cap] 24) := ⟨_, rfl⟩
 have hb1 : Below w.heap.size w w1 := by rw [hw1]; exact (Below.refl _ _).alloc (Nat.le_refl _) _
 have hg1 : w1.heap[w.heap.size]? = some (.cells #[.int .i64 n, .int .i64 k, .int .i64 s, .slice ao L cap] 24 (0, 0)) := by rw [hw1]; exact heap_alloc_new w _
 have hAl := fun W (hb : Below w.heap.size w W) => alive13_any hS aS aE W (hE.below hb)
 have hLn : Hid (L = es.length) := hL
 obtain ⟨x0, x1, x2, x3⟩ := wk_cells hg1
 have H1 : Hid _ := And.intro hw1 (And.intro hb1 (And.intro hg1 (And.intro hAl (And.intro hE (hv.below hb1)))))
 rw [<- hL]
 clear hv hL hw1 hb1 hg1 hAl hE
 unfold sysV
 go_enter Tryz.func6, Tryz.ntmps6
 go_upto_region 1 with fail
 rw [<- H1.out.1]
 by_cases hbig : (40 : Int) < n \/ (¬ (40 : Int) < n /\ (300 : Int) < (L : Int))
 ·rcases hbig with h1 | ⟨h1, h2⟩
  all_goals
   go_wp2_with fail
   refine Calls.mono (H1.out.2.2.2.1 w1 H1.out.2.1) ?_
   rintro r w2 ⟨rfl, hb2⟩
   have H2 : Hid _ := wk_bel hb2 H1.out.2.1
   clear hb2
   go_wp2_with fail
   go_ret
   exact ⟨rfl, H2.out⟩
 ·have h1 : ¬ (40 : Int) < n := by omega
  have h2 : ¬ (300 : Int) < (L : Int) := by omega
  clear hbig
  cases hq : Sy.right n k s es with
  | false =>
    have hSb := silentOf_bad n k s _ es aS w1 (H1.out.2.2.2.2.1.below H1.out.2.1).sy H1.out.2.2.2.2.2 hq
    have hTb := tableOf_bad n k s _ es aS [wkB, sysB] w1 H1.out.2.2.2.2.2 hSb
    have hSat := saturate_bad n k s _ es aS [wkB, sysB] w1 H1.out.2.2.2.2.2 hTb
    have hCls := wclasses_bad n k s _ es aS [wkB, sysB] w1 H1.out.2.2.2.2.2 hTb
    unfold WkBadC at hSat hCls
    rw [<- hLn.out] at hSat hCls
    unfold sysV zSys at hSat
    unfold sysV at hCls
    have HB : Hid _ := And.intro hSat hCls
    clear hSb hTb hSat hCls
    go_wp2_with fail
    refine Calls.mono (HB.out.1 w1 (Below.refl _ _)) ?_
    rintro r w2 ⟨b2, rfl, hC2, hb2⟩
    obtain ⟨w3, hw3⟩ : ∃ w3, w3 = w2.alloc (.cells #[.int .i64 0, .int .i64 0, .int .i64 0, .slice none 0 0] 24) := ⟨_, rfl⟩
    have hb3 : Below w2.heap.size w2 w3 := by rw [hw3]; exact (Below.refl _ _).alloc (Nat.le_refl _) _
    have hb13 : Below w1.heap.size w1 w3 := wk_bel hb3 hb2
    have H3 : Hid _ := And.intro hw3 (And.intro hb13 (hC2.below hb3))
    clear hC2 hb2 hw3 hb3 hb13 x0 x1 x2 x3
    go_upto_region 4 with fail
    rw [<- H3.out.1]
    obtain ⟨x0, x1, x2, x3⟩ := wk_cells (wk_res H3.out.2.1 H1.out.2.2.1)
    go_wp2_with fail
    refine Calls.mono (HB.out.2 w3 H3.out.2.1) ?_
    rintro r w4 ⟨b4, rfl, hC4, hb4⟩
    have H4 : Hid _ := wk_bel hb4 (wk_bel H3.out.2.1 H1.out.2.1)
    have hC34 := H3.out.2.2.below hb4
    have HC : Hid _ := And.intro hC34 H4.out
    clear hC4 hb4 hC34 x0 x1 x2 x3
    go_wp2_with fail
    refine Calls.mono (H1.out.2.2.2.1 w4 H4.out) ?_
    rintro r w5 ⟨rfl, hb5⟩
    have hE5 := (H1.out.2.2.2.2.1.below (wk_bel hb5 H4.out))
    obtain ⟨hs, cE, tE, hcE⟩ := hE5.ed
    obtain ⟨_, cS, tS, hcS⟩ := hE5.sy
    have hIs := is_chain _ [wkB, sysB] 0 0 aS aE cS cE tS tE w5 (HC.out.1.below hb5) hcS hcE
    generalize decide (aS = aE) = bb at hIs
    have H5 : Hid _ := And.intro (wk_bel hb5 H4.out) hIs
    clear hb5 hIs hcE hcS hE5
    cases bb
    all_goals
     go_wp2_with fail
     refine Calls.mono H5.out.2 ?_
     rintro r w6 ⟨rfl, hw6⟩
     obtain rfl := hw6.symm
     clear hw6
     go_wp2_with fail
     go_ret
     exact ⟨rfl, H5.out.1⟩
  | true =>
    have hp9 : 0 <= n /\ 0 <= k := by unfold Sy.right at hq; simp only [Bool.and_eq_true, decide_eq_true_eq] at hq; omega
    obtain ⟨m, rfl⟩ : ∃ m : Nat, n = (m : Int) := ⟨n.toNat, by omega⟩
    obtain ⟨kk, rfl⟩ : ∃ kk : Nat, k = (kk : Int) := ⟨k.toNat, by omega⟩
    have hm : m <= 300 := by omega
    have hCl := fun (W : World) (hb : Below w1.heap.size w1 W) => wclasses_any hS m kk s _ es aS aE W (H1.out.2.2.2.2.1.below (wk_bel hb H1.out.2.1)) (H1.out.2.2.2.2.2.below hb) hq hm
    rw [<- hLn.out] at hCl
    unfold sysV at hCl
    rcases Nat.lt_or_ge 10000 (Wk.sat es m kk).length with hsz | hsz
    ·have hSat := saturate_big m kk s _ es aS w1 aE (H1.out.2.2.2.2.1.below H1.out.2.1).sy (H1.out.2.2.2.2.1.below H1.out.2.1).ed H1.out.2.2.2.2.2 hq hm hsz
     rw [<- hLn.out] at hSat
     unfold sysV at hSat
     have HB : Hid _ := And.intro hSat hCl
     clear hSat hCl hq hp9 hm hsz
     go_wp2_with fail
     refine Calls.mono HB.out.1 ?_
     rintro r w2 ⟨b2, rfl, hC2, hb2⟩
     obtain ⟨w3, hw3⟩ : ∃ w3, w3 = w2.alloc (.cells #[.int .i64 0, .int .i64 0, .int .i64 0, .slice none 0 0] 24) := ⟨_, rfl⟩
     have hb3 : Below w2.heap.size w2 w3 := by rw [hw3]; exact (Below.refl _ _).alloc (Nat.le_refl _) _
     have hb13 : Below w1.heap.size w1 w3 := wk_bel hb3 hb2
     have H3 : Hid _ := And.intro hw3 (And.intro hb13 (hC2.below hb3))
     clear hC2 hb2 hw3 hb3 hb13 x0 x1 x2 x3
     go_upto_region 4 with fail
     rw [<- H3.out.1]
     obtain ⟨x0, x1, x2, x3⟩ := wk_cells (wk_res H3.out.2.1 H1.out.2.2.1)
     go_wp2_with fail
     refine Calls.mono (HB.out.2 w3 H3.out.2.1) ?_
     rintro r w4 ⟨uc, R, rfl, hR, hO, hb4⟩
     obtain ⟨ac, cc, rfl⟩ := row_shape hO
     have H4 : Hid _ := wk_bel hb4 (wk_bel H3.out.2.1 H1.out.2.1)
     have HC : Hid _ := And.intro (H3.out.2.2.below hb4) H4.out
     clear hR hO hb4 x0 x1 x2 x3
     generalize (natI (Ro.rnd m (fun i => Sy.rowOf m (Sy.nf (Wk.sat es m kk)) (i : Int)) R)).length = NC
     go_wp2_with fail
     refine Calls.mono (H1.out.2.2.2.1 w4 H4.out) ?_
     rintro r w5 ⟨rfl, hb5⟩
     have hE5 := (H1.out.2.2.2.2.1.below (wk_bel hb5 H4.out))
     obtain ⟨hs, cE, tE, hcE⟩ := hE5.ed
     have hIs := is_chain _ [wkB] 0 0 aE aE cE cE tE tE w5 (HC.out.1.below hb5) hcE hcE
     rw [decide_eq_true rfl] at hIs
     have H5 : Hid _ := And.intro (wk_bel hb5 H4.out) hIs
     clear hb5 hIs hcE hE5
     go_wp2_with fail
     refine Calls.mono H5.out.2 ?_
     rintro r w6 ⟨rfl, hw6⟩
     obtain rfl := hw6.symm
     clear hw6
     go_wp2_with fail
     go_ret
     exact ⟨rfl, H5.out.1⟩
    ·have hI := Wk.in_right hq
     have hqs := Wk.sat_right hq hsz
     have hss : Wk.sat (Wk.sat es m kk) m kk = Wk.sat es m kk := Wk.sat_sat hI
     have hSat := saturate_ok m kk s _ es aS w1 (H1.out.2.2.2.2.1.below H1.out.2.1).sy (H1.out.2.2.2.2.1.below H1.out.2.1).tab H1.out.2.2.2.2.2 hq hm hsz
     rw [<- hLn.out] at hSat
     have hSc := fun (W : World) (u : Value) (hb : Below w.heap.size w W) (hu : BEdges.Has W u (Wk.sat es m kk)) => sclasses_ok hS m kk s u (Wk.sat es m kk) aS W (H1.out.2.2.2.2.1.below hb).sy hu (by omega) hqs
     have hSa := fun (W : World) (u : Value) (hb : Below w.heap.size w W) (hu : BEdges.Has W u (Wk.sat es m kk)) => saturate_ok m kk s u (Wk.sat es m kk) aS W (H1.out.2.2.2.2.1.below hb).sy (H1.out.2.2.2.2.1.below hb).tab hu hqs hm (by rw [hss]; exact hsz)
     rw [hss] at hSa
     unfold sysV at hSat hSc hSa
     obtain ⟨NL, hNL⟩ : ∃ NL, NL = (Wk.sat es m kk).length := ⟨_, rfl⟩
     have hlz : NL <= 10000 := by omega
     have HB : Hid _ := And.intro hSat (And.intro hCl (And.intro hSc (And.intro hSa hNL)))
     clear hSat hCl hq hp9 hm hsz hSc hSa hI hqs hss hNL
     go_wp2_with fail
     refine Calls.mono HB.out.1 ?_
     rintro r w2 ⟨u, rfl, hO, hb2⟩
     have hOu := hO
     unfold BEdges.Own at hOu
     rw [<- HB.out.2.2.2.2] at hOu
     obtain ⟨au, cu, rfl⟩ := row_shape hOu
     obtain ⟨w3, hw3⟩ : ∃ w3, w3 = w2.alloc (.cells #[.int .i64 m, .int .i64 kk, .int .i64 s, .slice au NL cu] 24) := ⟨_, rfl⟩
     obtain ⟨g3, hg3⟩ : ∃ g3, g3 = w2.heap.size := ⟨_, rfl⟩
     have hb3 : Below w2.heap.size w2 w3 := by rw [hw3]; exact (Below.refl _ _).alloc (Nat.le_refl _) _
     have hc3 : w3.heap[g3]? = some (.cells #[.int .i64 m, .int .i64 kk, .int .i64 s, .slice au NL cu] 24 (0, 0)) := by rw [hw3, hg3]; exact heap_alloc_new w2 _
     have hb13 : Below w1.heap.size w1 w3 := wk_bel hb3 hb2
     have H3 : Hid _ := And.intro hw3 (And.intro hb13 (And.intro (hO.has.below hb3) (And.intro hc3 hg3)))
     clear hO hOu hb2 hw3 hb3 hb13 x0 x1 x2 x3 hc3 hg3
     go_upto_region 4 with fail
     rw [<- H3.out.1, <- H3.out.2.2.2.2]
     obtain ⟨x0, x1, x2, x3⟩ := wk_cells (wk_res H3.out.2.1 H1.out.2.2.1)
     go_wp2_with fail
     refine Calls.mono (HB.out.2.1 w3 H3.out.2.1) ?_
     rintro r w4 ⟨uc, R, rfl, hR, hOc, hb4⟩
     obtain ⟨ac, cc, rfl⟩ := row_shape hOc
     have hb04 := wk_bel hb4 (wk_bel H3.out.2.1 H1.out.2.1)
     have hc4 := wk_res hb4 H3.out.2.2.2.1
     have H4 : Hid _ := And.intro hb04 (And.intro (H3.out.2.2.1.below hb4) (And.intro hc4 (And.intro hR hOc)))
     clear hR hOc hb4 x0 x1 x2 x3 hb04
     obtain ⟨zs, hzs⟩ : ∃ zs, zs = natI (Ro.rnd m (fun i => Sy.rowOf m (Sy.nf (Wk.sat es m kk)) (i : Int)) R) := ⟨_, rfl⟩
     rw [<- hzs] at H4 ⊢
     obtain ⟨NC, hNC⟩ : ∃ NC, NC = zs.length := ⟨_, rfl⟩
     rw [<- hNC] at H4 ⊢
     have HZ : Hid _ := And.intro hzs hNC
     have hlc : NC <= 1000 := by
      rw [hNC, hzs]
      simp only [natI, List.length_map, Ro.rnd_len]
      omega
     clear hzs hNC
     obtain ⟨x0, x1, x2, x3⟩ := wk_cells hc4
     clear hc4
     go_wp2_with fail
     refine Calls.mono (HB.out.2.2.1 w4 _ H4.out.1 H4.out.2.1) ?_
     rintro r w5 ⟨ud, R2, rfl, hR2, hOd, hb5⟩
     obtain rfl : R2 = R := hR2.unique H4.out.2.2.2.1
     rw [<- HZ.out.1] at hOd
     obtain ⟨ad, cd, rfl⟩ := row_shape hOd
     rw [<- HZ.out.2] at hOd ⊢
     have hb05 := wk_bel hb5 H4.out.1
     have hc5 := wk_res hb5 H4.out.2.2.1
     have hOc5 := trow_at H4.out.2.2.2.2 fun b hb => hb5.block b (H4.out.2.2.2.2.lt b hb).2
     have H5 : Hid _ := And.intro hb05 (And.intro (H4.out.2.1.below hb5) (And.intro hc5 (And.intro hOc5 hOd)))
     clear hR2 hOd hb5 hb05 hOc5 x0 x1 x2 x3
     obtain ⟨x0, x1, x2, x3⟩ := wk_cells hc5
     clear hc5
     go_wp2_with fail
     refine Calls.mono (HB.out.2.2.2.1 w5 _ H5.out.1 H5.out.2.1) ?_
     rintro r w6 ⟨ue, rfl, hOe, hb6⟩
     have hOu := hOe
     unfold BEdges.Own at hOu
     rw [<- HB.out.2.2.2.2] at hOu
     obtain ⟨ae, ce, rfl⟩ := row_shape hOu
     obtain ⟨w7, hw7⟩ : ∃ w7, w7 = w6.alloc (.cells #[.int .i64 m, .int .i64 kk, .int .i64 s, .slice ae NL ce] 24) := ⟨_, rfl⟩
     obtain ⟨g7, hg7⟩ : ∃ g7, g7 = w6.heap.size := ⟨_, rfl⟩
     have hb7 : Below w6.heap.size w6 w7 := by rw [hw7]; exact (Below.refl _ _).alloc (Nat.le_refl _) _
     have hc7 : w7.heap[g7]? = some (.cells #[.int .i64 m, .int .i64 kk, .int .i64 s, .slice ae NL ce] 24 (0, 0)) := by rw [hw7, hg7]; exact heap_alloc_new w6 _
     have hb57 : Below w5.heap.size w5 w7 := wk_bel hb7 hb6
     have h3 := wk_res hb57 H5.out.2.2.1
     have H7 : Hid _ := And.intro hw7 (And.intro hg7 (And.intro hc7 (And.intro (wk_bel hb57 H5.out.1) (And.intro (H5.out.2.1.below hb57) (And.intro (hOe.has.below hb7) (And.intro h3 (And.intro (trow_at H5.out.2.2.2.1 fun b hb => hb57.block b (H5.out.2.2.2.1.lt b hb).2) (trow_at H5.out.2.2.2.2 fun b hb => hb57.block b (H5.out.2.2.2.2.lt b hb).2))))))))
     clear hOe hOu hb6 hw7 hg7 hb7 hc7 hb57 h3 x0 x1 x2 x3
     go_upto_region 9 with fail
     rw [<- H7.out.1, <- H7.out.2.1]
     have hbz : (zs == zs) = true := by simp
     go_wp2_with fail
     refine Calls.mono (H1.out.2.2.2.1 w7 H7.out.2.2.2.1) ?_
     rintro r w8 ⟨rfl, hb8⟩
     have hc3 := wk_res hb8 H7.out.2.2.2.2.2.2.1
     have hc7 := wk_res hb8 H7.out.2.2.1
     have hA8 : OwnI w8 w3.heap.size (.slice ac NC cc) zs := trow_at H7.out.2.2.2.2.2.2.2.1 fun b hb => hb8.block b (H7.out.2.2.2.2.2.2.2.1.lt b hb).2
     have hB8 : OwnI w8 w4.heap.size (.slice ad NC cd) zs := trow_at H7.out.2.2.2.2.2.2.2.2 fun b hb => hb8.block b (H7.out.2.2.2.2.2.2.2.2.lt b hb).2
     have hSI := sameInts_b (.slice ac NC cc) (.slice ad NC cd) zs zs w8 (by have := HZ.out.2; omega) (by have := HZ.out.2; omega) hA8.has hB8.has
     rw [hbz] at hSI
     have hSS := fun (W : World) (hb : Below w8.heap.size w8 W) => sameSystem_b m kk s (.slice au NL cu) (.slice ae NL ce) (Wk.sat es m kk) W (by have := HB.out.2.2.2.2; omega) ((H7.out.2.2.2.2.1.below hb8).below hb) ((H7.out.2.2.2.2.2.1.below hb8).below hb)
     unfold sysV at hSS
     have H8 : Hid _ := And.intro hSI (And.intro hSS (And.intro (wk_bel hb8 H7.out.2.2.2.1) (And.intro hc3 hc7)))
     clear hb8 hA8 hB8 hSI hSS
     obtain ⟨x0, x1, x2, x3⟩ := wk_cells hc3
     obtain ⟨y0, y1, y2, y3⟩ := wk_cells hc7
     clear hc3 hc7
     go_wp2_with fail
     refine Calls.mono H8.out.1 ?_
     rintro r w9 ⟨rfl, hb9⟩
     have H9 : Hid _ := And.intro (H8.out.2.1 w9 hb9) (wk_bel hb9 H8.out.2.2.1)
     have hc3 := wk_res hb9 H8.out.2.2.2.1
     have hc7 := wk_res hb9 H8.out.2.2.2.2
     clear hb9 x0 x1 x2 x3 y0 y1 y2 y3
     obtain ⟨x0, x1, x2, x3⟩ := wk_cells hc3
     obtain ⟨y0, y1, y2, y3⟩ := wk_cells hc7
     clear hc3 hc7
     go_wp2_with fail
     refine Calls.mono H9.out.1 ?_
     rintro r w10 ⟨rfl, hb10⟩
     have H10 : Hid _ := wk_bel hb10 H9.out.2
     clear hb10
     go_wp2_with fail
     go_ret
     exact ⟨rfl, H10.out⟩
end
section
open Go.ChangeShapes Go.WideShapes Go.ChangeAt Go.WideMaps Go.WideElems Go.RowKit
theorem Tryz.own : ownKnob Tryz.prog.godebug = none := by kernel_rfl
theorem Tryz.laidOut : laidOutB Tryz.prog = true := by kernel_rfl
theorem Tryz.cellsE : Tryz.prog.cellsOf 331 = 1 := by kernel_rfl
theorem Tryz.cellsS : Tryz.prog.cellsOf 9 = 1 := by kernel_rfl
set_option maxRecDepth 100000 in
theorem Tryz.star : "*" ++ "errors.errorString" = "*errors.errorString" := by decide
set_option maxRecDepth 100000 in
theorem Tryz.rowE (u : TypeId) (h : Tryz.prog.typeName? 3 u = some "*errors.errorString") : u = 311 :=
 typeName_ptr_named (nm := "errors.errorString") (by rw [Tryz.star]; kernel_rfl) (by kernel_rfl) (by decide) u (by rw [Tryz.star]; exact h)
set_option maxRecDepth 100000 in
theorem laid_step {W : World} {n : String} {g : Nat} {text : List UInt8} {r : List (String × DataW Unit)} {ps : List MemPlace} (hg : Tryz.prog.globalNamed n = some g) (ht : (Tryz.prog.globals[g]?).map (·.type) = some 48)
 (h : DataW.LaidVars Tryz.prog W ((n, .iface "*errors.errorString" (.ptr (.agg [.lit (.string text)]))) :: r) ps)
 (hrows : ∀ b off, MemPlace.cell b off ∈ ps -> (∃ c t, W.heap[b]? = some (.cells c t (0, 0))) /\ ∀ u v, W.cell? ⟨b, off, none⟩ = some (.iface u v) -> Value.okWide Tryz.prog W .any 0 u v) :
 ∃ a q, Sent W g a /\ DataW.LaidVars Tryz.prog W r q /\ ps = MemPlace.cell g 0 :: MemPlace.cell a.block a.off :: q := by
 obtain ⟨g0, t0, cs0, f0, p0, q0, hg0, ht0, hv0, hd0, hr, e0⟩ := h
 obtain rfl := Option.some.inj (hg.symm.trans hg0)
 obtain rfl := Option.some.inj (ht.symm.trans ht0)
 subst e0
 obtain ⟨l0⟩ := cs0
 have ok0 : ∀ u v, l0 = [.iface u v] -> Value.okWide Tryz.prog W .any 0 u v := fun u v e => by
  subst e
  exact (hrows g 0 (by simp [MemPlace.row])).2 u v (by simpa using World.var?_cell hg0 hv0 0)
 obtain ⟨a0, s0, rfl, hc0, hs0, hz0, rfl⟩ := errorString_of_trod Tryz.underlying48 Tryz.rowE Tryz.underlying311 Tryz.underlying331 rfl rfl Tryz.underlying9 Tryz.cellsE Tryz.cellsS hd0 ok0
 refine ⟨a0, q0, ⟨by simpa using World.var?_cell hg0 hv0 0, (hrows a0.block a0.off (by simp [MemPlace.row])).1⟩, hr, ?_⟩
 simp [MemPlace.row]
abbrev LE : Type := String × Nat × List UInt8
def leV (x : LE) : String × DataW Unit := (x.1, .iface "*errors.errorString" (.ptr (.agg [.lit (.string x.2.2)])))
theorem laid_list {W : World} {r : List (String × DataW Unit)} : ∀ (xs : List LE) (ps : List MemPlace), (∀ x ∈ xs, Tryz.prog.globalNamed x.1 = some x.2.1 /\ (Tryz.prog.globals[x.2.1]?).map (·.type) = some 48) ->
 DataW.LaidVars Tryz.prog W (xs.map leV ++ r) ps -> (∀ b off, MemPlace.cell b off ∈ ps -> (∃ c t, W.heap[b]? = some (.cells c t (0, 0))) /\ ∀ u v, W.cell? ⟨b, off, none⟩ = some (.iface u v) -> Value.okWide Tryz.prog W .any 0 u v) ->
 ∃ ads : List Addr, ads.length = xs.length /\ (∀ (i : Nat) (x : LE) (a : Addr), xs[i]? = some x -> ads[i]? = some a -> Sent W x.2.1 a) /\ (∀ a ∈ ads, MemPlace.cell a.block a.off ∈ ps) /\ (ps.Nodup -> ads.Pairwise (· ≠ ·))
 | [], ps, _, _, _ => ⟨[], rfl, fun i x a h => by simp at h, fun a h => by simp at h, fun _ => List.Pairwise.nil⟩
 | x :: xs, ps, hx, h, hr => by
   obtain ⟨a, q, hs, hq, rfl⟩ := laid_step (hx x List.mem_cons_self).1 (hx x List.mem_cons_self).2 h hr
   obtain ⟨ads, h1, h2, h3, h4⟩ := laid_list xs q (fun y hy => hx y (List.mem_cons_of_mem _ hy)) hq (fun b off hb => hr b off (List.mem_cons_of_mem _ (List.mem_cons_of_mem _ hb)))
   refine ⟨a :: ads, by simp [h1], fun i y b hy hb => ?_, fun b hb => ?_, fun hn => ?_⟩
   ·cases i with
    | zero => simp at hy hb; subst hy; subst hb; exact hs
    | succ i => exact h2 i y b (by simpa using hy) (by simpa using hb)
   ·rcases List.mem_cons.1 hb with rfl | hb
    ·exact List.mem_cons_of_mem _ List.mem_cons_self
    ·exact List.mem_cons_of_mem _ (List.mem_cons_of_mem _ (h3 b hb))
   ·have hn2 := (List.nodup_cons.1 hn).2
    have hn3 := List.nodup_cons.1 hn2
    exact List.Pairwise.cons (fun b hb e => hn3.1 (by rw [e]; exact h3 b hb)) (h4 hn3.2)
end
section
open Go.ChangeShapes Go.WideShapes Go.ChangeAt Go.WideMaps Go.WideElems Go.RowKit
theorem Tryz.cIntE : Tryz.prog.cellsOf 3 = 1 := by kernel_rfl
end
section
open Go.ChangeShapes Go.WideShapes Go.ChangeAt Go.WideMaps Go.WideElems Go.RowKit
theorem Tryz.cEdge : Tryz.prog.cellsOf 70 = 3 := by kernel_rfl
theorem Tryz.cSys : Tryz.prog.cellsOf 24 = 4 := by kernel_rfl
theorem ed_choose {n : Nat} {p : Nat -> Sy.Ed -> Prop} (h : ∀ i, i < n -> ∃ x, p i x) : ∃ f : Nat -> Sy.Ed, ∀ i, i < n -> p i (f i) := by
 classical
 refine ⟨fun i => if hi : i < n then Classical.choose (h i hi) else (0, 0, 0), fun i hi => ?_⟩
 simp only [hi, dif_pos]
 exact Classical.choose_spec (h i hi)
set_option maxRecDepth 100000 in
theorem edge_in {H : Type} {enc : TypeId × Value -> H} {W : World} {fuel i : Nat} {a : Addr} {cs : List Value} {x : DataW H × List MemPlace} (hc : W.cells? 0 (a.add (i * 3)) 3 = some cs) (h : DataW.trod enc Tryz.prog W 0 (fun _ => true) true fuel 70 cs = some x) :
 ∃ z : Sy.Ed, ∀ q u, (BEdges.enc z)[q]? = some u -> W.cell? (a.add (i * 3 + q)) = some u := by
 obtain ⟨_, hlen, hcell⟩ := World.cells?_some hc
 obtain ⟨xs, k, hk, _, _, hxl, hf⟩ := DataW.trod_struct Tryz.underlying70 h
 match xs, hxl, cs, hlen with
 | [y0, y1, y2], _, [v0, v1, v2], _ =>
   have g0 := hf 0 _ rfl
   have g1 := hf 1 _ rfl
   have g2 := hf 2 _ rfl
   simp [Tryz.cIntE] at g0 g1 g2
   obtain ⟨z0, e0, _⟩ := DataW.trod_int Tryz.underlying3 g0
   obtain ⟨z1, e1, _⟩ := DataW.trod_int Tryz.underlying3 g1
   obtain ⟨z2, e2, _⟩ := DataW.trod_int Tryz.underlying3 g2
   obtain rfl : v0 = .int .i64 z0 := by simpa using e0
   obtain rfl : v1 = .int .i64 z1 := by simpa using e1
   obtain rfl : v2 = .int .i64 z2 := by simpa using e2
   have c0 := hcell 0 (by omega)
   have c1 := hcell 1 (by omega)
   have c2 := hcell 2 (by omega)
   rw [Go.Deep.add_add] at c0 c1 c2
   refine ⟨(z0, z1, z2), fun q u hq => ?_⟩
   match q, hq with
   | 0, hq => cases hq; simpa using c0
   | 1, hq => cases hq; simpa using c1
   | 2, hq => cases hq; simpa using c2
   | q + 3, hq => simp [BEdges.enc] at hq
set_option maxRecDepth 100000 in
theorem edges_in {H : Type} {enc : TypeId × Value -> H} {W : World} {fuel : Nat} {v : Value} {x : DataW H × List MemPlace} (h : DataW.trod enc Tryz.prog W 0 (fun _ => true) true fuel 22 [v] = some x) : ∃ es, HasE W v es /\ es.length <= maxLen := by
 rcases Go.Deep.open_slice Tryz.underlying22 h with ⟨hc, _⟩ | ⟨a, len, cap, m, n, D, Pl, hc, _, hl, hm, hmm, _, hx⟩
 ·obtain rfl : v = .slice none 0 0 := by injection hc
  exact ⟨[], ⟨none, 0, rfl, Nat.le_refl _, none, 0, rfl, fun i s h => by simp [BEdges.C] at h⟩, by simp⟩
 ·obtain rfl : v = .slice (some a) len cap := by injection hc
  have hm' : m = cap := by simpa using hmm
  rw [Tryz.cEdge] at hx
  have each : ∀ i, i < len -> ∃ z : Sy.Ed, ∀ q u, (BEdges.enc z)[q]? = some u -> W.cell? (a.add (i * 3 + q)) = some u := fun i hi => by
   obtain ⟨cs, h1, h2⟩ := hx i (by omega)
   exact edge_in h1 h2
  obtain ⟨f, hf'⟩ := ed_choose each
  have hL : ((List.range len).map f).length = len := by simp
  refine ⟨(List.range len).map f, ⟨some a, cap, by rw [hL], by rw [hL]; omega, some a, cap, by rw [hL], fun j u hj => ⟨a, rfl, ?_⟩⟩, by rw [hL]; omega⟩
  have hj3 : j < len * 3 := by have := (List.getElem?_eq_some_iff.1 hj).1; rw [BEdges.C_len, hL] at this; exact this
  have hi : j / 3 < len := by omega
  have hz : ((List.range len).map f)[j / 3]? = some (f (j / 3)) := by rw [List.getElem?_map, List.getElem?_range hi]; rfl
  have h9 := BEdges.C_at _ _ _ hz (j % 3) (Nat.mod_lt _ (by decide))
  have e9 : j / 3 * 3 + j % 3 = j := by omega
  rw [e9, hj] at h9
  have h8 := hf' (j / 3) hi (j % 3) u h9.symm
  rw [e9] at h8
  exact h8
set_option maxRecDepth 100000 in
theorem has_sys {H : Type} {enc : TypeId × Value -> H} {W : World} {base : Nat} {v : Value} {d : DataW H} {ps : List MemPlace} (hok : Value.okWide Tryz.prog W .any base 24 v) (h : DataW.Trod enc Tryz.prog W 0 (fun _ => true) true 24 v d ps) :
 ∃ (n k s : Int) (u : Value) (es : List Sy.Ed), v = sysV n k s u /\ HasE W u es /\ es.length <= maxLen := by
 obtain ⟨v0, v1, v2, v3, y0, y1, y2, y3, f, rfl, _, _, t0, t1, t2, t3⟩ := Go.Joins.open_agg4 Tryz.underlying24 (by kernel_rfl) Tryz.cSys hok h
 obtain ⟨z0, e0, _⟩ := DataW.trod_int Tryz.underlying3 t0
 obtain ⟨z1, e1, _⟩ := DataW.trod_int Tryz.underlying3 t1
 obtain ⟨z2, e2, _⟩ := DataW.trod_int Tryz.underlying3 t2
 obtain rfl : v0 = .int .i64 z0 := by simpa using e0
 obtain rfl : v1 = .int .i64 z1 := by simpa using e1
 obtain rfl : v2 = .int .i64 z2 := by simpa using e2
 obtain ⟨es, h1, h2⟩ := edges_in t3
 exact ⟨z0, z1, z2, v3, es, rfl, h1, h2⟩
end
section
open Go.ChangeShapes Go.WideShapes Go.ChangeAt Go.WideMaps Go.WideElems Go.RowKit
theorem laid_tail9 {W : World} {x : String × DataW Unit} {r : List (String × DataW Unit)} (h : laidMet Tryz.prog (x :: r) W) : laidMet Tryz.prog r W := by
 obtain ⟨ps, ⟨g, t, cs, fuel, p, q, _, _, _, _, hr, rfl⟩, hn, ho⟩ := h
 exact ⟨q, hr, (List.nodup_append.1 hn).2.1, fun b off hb => ho b off (List.mem_append_right _ hb)⟩
theorem Tryz.gTab : Tryz.prog.globalNamed "math/bits.deBruijn64tab" = some 12 := by kernel_rfl
theorem Tryz.tTab : (Tryz.prog.globals[12]?).map (·.type) = some 209 := by kernel_rfl
theorem Tryz.cTabE : Tryz.prog.cellsOf 5 = 1 := by kernel_rfl
theorem Tryz.cTab : Tryz.prog.cellsOf 209 = 64 := by kernel_rfl
def tabZ : List Int := Lib.deBruijn64tab.map fun (n : Nat) => Int.ofNat n
theorem tabZ_at : ∀ j, j < 64 -> tabZ.getD j 0 = ((Lib.deBruijn64tab.getD j 0 : Nat) : Int) := by decide +kernel
theorem tab_of {W : World} {r : List (String × DataW Unit)} (h : laidMet Tryz.prog (("math/bits.deBruijn64tab", Lib.tabData .u8 tabZ) :: r) W) : TabW W := fun j hj => by
 have h1 := (Lib.tabIs_of_head Tryz.gTab Tryz.tTab Tryz.underlying209 Tryz.underlying5 Tryz.cTabE Tryz.cTab h).cell Tryz.gTab j (by simpa [tabZ, Lib.deBruijn64tab] using hj)
 rw [tabZ_at j hj] at h1
 exact h1
abbrev eI9 (x : List UInt8) : DataW Unit := .iface "*errors.errorString" (.ptr (.agg [.lit (.string x)]))
theorem weak_of {W : World} {x0 x1 x2 x3 x4 : List UInt8} (h : laidMet Tryz.prog (("math/bits.deBruijn64tab", Lib.tabData .u8 tabZ) :: ("semblance/api.ErrArg", eI9 x0) :: ("semblance/api.ErrLong", eI9 x1) :: ("semblance/api.ErrIndex", eI9 x2) :: ("semblance/api.ErrEdges", eI9 x3) :: ("semblance/api.ErrSystem", eI9 x4) :: []) W) : ∃ a b, EnvW W a b := by
 obtain ⟨ps, h0, hnd, r0⟩ := laid_tail9 h
 obtain ⟨ads, h1, h2, _, _⟩ := laid_list [("semblance/api.ErrArg", 3, x0), ("semblance/api.ErrLong", 2, x1), ("semblance/api.ErrIndex", 1, x2), ("semblance/api.ErrEdges", 0, x3), ("semblance/api.ErrSystem", 11, x4)] ps (fun x hx => by
  simp only [List.mem_cons, List.not_mem_nil, or_false] at hx
  rcases hx with rfl | rfl | rfl | rfl | rfl
  all_goals exact ⟨by kernel_rfl, by kernel_rfl⟩) h0 r0
 have hl : ads.length = 5 := h1
 obtain ⟨a, ha⟩ : ∃ a, ads[4]? = some a := ⟨_, List.getElem?_eq_getElem (by omega)⟩
 obtain ⟨b, hb⟩ : ∃ a, ads[3]? = some a := ⟨_, List.getElem?_eq_getElem (by omega)⟩
 exact ⟨a, b, h2 4 _ a rfl ha, h2 3 _ b rfl hb, tab_of h⟩
theorem hasE_has9 {w : World} {v : Value} {es : List Sy.Ed} (h : HasE w v es) : BEdges.Has w v es := by
 obtain ⟨_, _, _, _, h⟩ := h
 exact h
end
end Go.Proofs.YthcpliinddjkhaaGreatDoor
