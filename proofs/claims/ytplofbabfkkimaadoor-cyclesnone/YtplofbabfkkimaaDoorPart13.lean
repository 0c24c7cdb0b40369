/- Texts of this claim, joined: TsTop, SyOutI, TsOrd, TsThy, TsAl, TsLawE0. -/
import Derived.Test.YtplofbabfkkimaaDoorPart12
import Derived.Test.YtplofbabfkkimaaDoorPart3
import Derived.Test.YtplofbabfkkimaaDoorPart10
import Derived.Test.YtplofbabfkkimaaDoorPart11
import Derived.Deep.AppendLies
import Derived.Deep.DeepCutAuto
/- tauscc: the contracts of Cycles and Collapse. -/
namespace Go.Proofs.YtplofbabfkkimaaDoor.Ts
open Go.RowKit Go.Maps
attribute [local go_sem ↓] Go.wp_at_zero Go.wp_at_succ
def tauB : ByteArray := ⟨#[116, 97, 117, 115, 99, 99]⟩
theorem tfault_any (T : TypeId) (u : Value) (w : World) (a : Addr) (ls : List ByteArray) (h : Chain w 0 0 a ls (.iface T u)) : Calls Tryd.prog 12 #[.iface T u] w fun r w' => ∃ b, r = .returned (.iface 56 (.pointer (some ⟨b, 0, none⟩))) ∧ Chain w' 0 0 a (tauB :: ls) (.iface 56 (.pointer (some ⟨b, 0, none⟩))) ∧ Below w.heap.size w w' := by
  have HC : Hid (Chain w 0 0 a ls (.iface T u)) := h
  clear h
  go_enter Tryd.func12, Tryd.ntmps12
  go_wp2
  go_ret
  have hb : Below w.heap.size w (w.alloc (.cells #[.string tauB, .int .i64 0, .int .i64 0, .iface T u] 58)) := (Below.refl _ _).alloc (Nat.le_refl _) _
  exact ⟨_, rfl, ⟨_, _, rfl, heap_alloc_new w _, HC.out.below hb⟩, hb⟩
theorem tlabels_any {B g bs bb cs cb n : Nat} {k s : Int} {es : List Sy.Ed} (w : World) (h : Gr w B g bs bb cs cb n k s es) : Calls Tryd.prog 14 #[.pointer (some ⟨g, 0, none⟩)] w fun r w' => r = .returned (.int .i64 k) ∧ w' = w := by
  obtain ⟨_, c1, _, _, _, _⟩ := h.cells
  have hq := Tryd.eqG g
  clear h
  go_enter Tryd.func14, Tryd.ntmps14
  go_wp2
  go_ret
  exact ⟨rfl, rfl⟩
theorem tstart_any {B g bs bb cs cb n : Nat} {k s : Int} {es : List Sy.Ed} (w : World) (h : Gr w B g bs bb cs cb n k s es) : Calls Tryd.prog 15 #[.pointer (some ⟨g, 0, none⟩)] w fun r w' => r = .returned (.int .i64 s) ∧ w' = w := by
  obtain ⟨_, _, c2, _, _, _⟩ := h.cells
  have hq := Tryd.eqG g
  clear h
  go_enter Tryd.func15, Tryd.ntmps15
  go_wp2
  go_ret
  exact ⟨rfl, rfl⟩
theorem chain_kept {w w' : World} {l c : Int} {a : Addr} {F : Nat → Prop} (hk : Kept F w w') (hF : ∀ (b : Nat) (cs : Array Value), w.heap[b]? = some (.cells cs 58 (0, 0)) → ¬ F b) : ∀ {ls : List ByteArray} {v : Value}, Chain w l c a ls v → Chain w' l c a ls v
  | [], _, h => h
  | _ :: _, _, ⟨b, u, e, hb, h⟩ => ⟨b, u, e, (hk.block b (t_lt hb) (hF b _ hb)).trans hb, chain_kept hk hF h⟩
theorem tne {w : World} {i j : Nat} {c c' : Array Value} {s t : TypeId} (hi : w.heap[i]? = some (.cells c s (0, 0))) (hj : w.heap[j]? = some (.cells c' t (0, 0))) (hne : s ≠ t) : i ≠ j := by
  rintro rfl
  rw [hi] at hj
  injection hj with hj
  injection hj with _ h2
  exact hne h2
theorem own_up4 {w w' : World} {B : Nat} {v : Value} {zs : List Int} (h : OwnI w B v zs) (hb : Below w.heap.size w w') : OwnI w' B v zs := trow_at h fun b e => hb.block b (h.lt b e).2
theorem edge_up4 {w w' : World} {B : Nat} {v : Value} {zs : List Sy.Ed} (h : BEdges.Own w B v zs) (hb : Below w.heap.size w w') : BEdges.Own w' B v zs := trow_at h fun b e => hb.block b (h.lt b e).2
set_option linter.unusedSimpArgs false in
set_option maxRecDepth 100000 in
set_option maxHeartbeats 4000000 in
theorem cycles_ok {M : Nat} (hS : SortOk M) (n : Nat) (k s : Int) (v : Value) (es : List Sy.Ed) (a : Addr) (w : World) (hA : Sent w 0 a) (hv : BEdges.Has w v es) (hM : es.length ≤ M) (hm : es.length ≤ 100000) (hq : Sy.right n k s es = true) :
    Calls Tryd.prog 10 #[sysV n k s v] w fun r w' => ∃ (u : Value) (cl : List Nat), r = .returned (.tuple #[u, .nilIface]) ∧ Cl n es cl ∧ OwnI w' w.heap.size u (natI cl) ∧ Below w.heap.size w w' := by
  have hb1 := fun o => (Below.refl w.heap.size w).alloc (Nat.le_refl _) o
  have hN := fun o => new_ok hS n k s v es a (w.alloc o) (hA.below (hb1 o)) (hv.below (hb1 o)) hM hm hq
  have H : Hid _ := And.intro hN hb1
  clear hN hb1 hA hv hM hm hq
  unfold sysV at H ⊢
  go_enter Tryd.func10, Tryd.ntmps10
  go_wp2_with (first | (go_at_call 21; refine Calls.mono (H.out.1 _) ?_; rintro r2 w2 ⟨g, bs, bb, cs, cb, m, hnm, rfl, hG, hb2⟩; obtain rfl : n = m := (by omega); clear hnm; have H2 : Hid _ := And.intro hG hb2; clear hG hb2) | (go_at_call 22; refine Calls.mono (cyclesOf_any _ H2.out.1) ?_; rintro r3 w3 ⟨u, zs, rfl, hZ, hO, hb3⟩; have H3 : Hid _ := And.intro (Cl.of hZ) (And.intro hO hb3); clear hZ hO hb3))
  go_ret2
  have h1 := (H.out.2 _).trans (H2.out.2.mono (H.out.2 _).size)
  exact ⟨u, _, rfl, H3.out.1, own_lower H3.out.2.1 h1.size, h1.trans (H3.out.2.2.mono h1.size)⟩
set_option linter.unusedSimpArgs false in
set_option maxRecDepth 100000 in
set_option maxHeartbeats 4000000 in
theorem cycles_bad {M : Nat} (hS : SortOk M) (n k s : Int) (v : Value) (es : List Sy.Ed) (a : Addr) (w : World) (hA : Sent w 0 a) (hv : BEdges.Has w v es) (hM : es.length ≤ M) (hm : es.length ≤ 100000) (hq : Sy.right n k s es = false) :
    Calls Tryd.prog 10 #[sysV n k s v] w fun r w' => ∃ b, r = .returned (.tuple #[.slice none 0 0, .iface 56 (.pointer (some ⟨b, 0, none⟩))]) ∧ Chain w' 0 0 a [tauB, sysB] (.iface 56 (.pointer (some ⟨b, 0, none⟩))) ∧ Below w.heap.size w w' := by
  have hb1 := fun o => (Below.refl w.heap.size w).alloc (Nat.le_refl _) o
  have hN := fun o => new_bad hS n k s v es a (w.alloc o) (hA.below (hb1 o)) (hv.below (hb1 o)) hM hm hq
  have H : Hid _ := And.intro hN hb1
  clear hN hb1 hA hv hM hm hq
  unfold sysV at H ⊢
  go_enter Tryd.func10, Tryd.ntmps10
  go_wp2_with (first | (go_at_call 21; refine Calls.mono (H.out.1 _) ?_; rintro r1 w1 ⟨x, rfl, hx, hb⟩; obtain ⟨T, ad, rfl⟩ := hx.iface; have HX : Hid _ := And.intro hx hb; clear hx hb) | (go_at_call 12; refine Calls.mono (tfault_any _ _ _ a [sysB] HX.out.1) ?_; rintro r3 w3 ⟨b, rfl, hC3, hb3⟩; have H3 : Hid _ := And.intro hC3 hb3; clear hC3 hb3))
  go_ret2
  have h1 := (H.out.2 _).trans (HX.out.2.mono (H.out.2 _).size)
  exact ⟨b, rfl, H3.out.1, h1.trans (H3.out.2.mono h1.size)⟩
set_option linter.unusedSimpArgs false in
set_option maxRecDepth 100000 in
set_option maxHeartbeats 4000000 in
theorem collapse_bad {M : Nat} (hS : SortOk M) (n k s : Int) (v : Value) (es : List Sy.Ed) (a : Addr) (w : World) (hA : Sent w 0 a) (hv : BEdges.Has w v es) (hM : es.length ≤ M) (hm : es.length ≤ 100000) (hq : Sy.right n k s es = false) :
    Calls Tryd.prog 6 #[sysV n k s v] w fun r w' => ∃ b, r = .returned (.tuple #[sysV 0 0 0 (.slice none 0 0), .slice none 0 0, .iface 56 (.pointer (some ⟨b, 0, none⟩))]) ∧ Chain w' 0 0 a [tauB, sysB] (.iface 56 (.pointer (some ⟨b, 0, none⟩))) ∧ Below w.heap.size w w' := by
  obtain ⟨w1, hw1⟩ : ∃ w1, w1 = (w.alloc (.cells #[.int .i64 n, .int .i64 k, .int .i64 s, v] 24)).alloc (.cells #[.int .i64 0, .int .i64 0, .int .i64 0, .slice none 0 0] 24) := ⟨_, rfl⟩
  have hb1 : Below w.heap.size w w1 := by rw [hw1]; exact ((Below.refl _ _).alloc (Nat.le_refl _) _).alloc (by simp) _
  have hg : w1.heap[w.heap.size + 1]? = some (.cells #[.int .i64 0, .int .i64 0, .int .i64 0, .slice none 0 0] 24 (0, 0)) := by rw [hw1]; exact two_alloc w _ _
  have hg0 : w1.heap[w.heap.size]? = some (.cells #[.int .i64 n, .int .i64 k, .int .i64 s, v] 24 (0, 0)) := by rw [hw1, Below.heap_alloc _ _ _ (by simp)]; exact heap_alloc_new w _
  have hN := collapsed_bad hS n k s v es a w1 (hA.below hb1) (hv.below hb1) hM hm hq
  obtain ⟨c0, c1, c2, c3⟩ := four_cells hg0
  have H : Hid _ := And.intro hN (And.intro hb1 (And.intro hg hw1))
  clear hN hb1 hA hv hM hm hq hg hg0 hw1
  unfold sysV at H ⊢
  go_enter Tryd.func6, Tryd.ntmps6
  go_upto_region 1 with fail
  rw [← H.out.2.2.2]
  go_wp2_with (first | (go_at_call 11; refine Calls.mono H.out.1 ?_; rintro r1 w2 ⟨x, rfl, hx, hb⟩; obtain ⟨T, ad, rfl⟩ := hx.iface; have HX : Hid _ := And.intro hx hb; clear hx hb) | (go_at_call 12; refine Calls.mono (tfault_any _ _ _ a [sysB] HX.out.1) ?_; rintro r3 w3 ⟨b, rfl, hC3, hb3⟩; have hb13 := HX.out.2.trans (hb3.mono HX.out.2.size); have hg3 := (hb13.block _ (t_lt H.out.2.2.1)).trans H.out.2.2.1; obtain ⟨z0, z1, z2, z3⟩ := four_cells hg3; have f0 := blk_free hg3 0; have f1 := blk_free hg3 1; have f2 := blk_free hg3 2; have f3 := blk_free hg3 3; have H3 : Hid _ := And.intro hC3 (And.intro hb13 hg3); clear hC3 hb3 hg3 hb13))
  obtain ⟨wf, hwf⟩ : ∃ wf, wf = ((((w3.setCell ⟨w.heap.size + 1, 0, none⟩ (.int .i64 0)).setCell ⟨w.heap.size + 1, 1, none⟩ (.int .i64 0)).setCell ⟨w.heap.size + 1, 2, none⟩ (.int .i64 0)).setCell ⟨w.heap.size + 1, 3, none⟩ (.slice none 0 0)) := ⟨_, rfl⟩
  rw [← hwf]
  have hgf : wf.heap[w.heap.size + 1]? = some (.cells #[.int .i64 0, .int .i64 0, .int .i64 0, .slice none 0 0] 24 (0, 0)) := by rw [hwf]; exact four_set H3.out.2.2
  have hkf : Kept (fun b => b = w.heap.size + 1) w3 wf := by rw [hwf]; exact (((Kept.setCell _ _ _ _).trans (Kept.setCell _ _ _ _)).trans (Kept.setCell _ _ _ _)).trans (Kept.setCell _ _ _ _)
  clear hwf z0 z1 z2 z3 f0 f1 f2 f3 c0 c1 c2 c3
  obtain ⟨d0, d1, d2, d3⟩ := four_cells hgf
  have h3 : Below w.heap.size w w3 := H.out.2.1.trans (H3.out.2.1.mono H.out.2.1.size)
  refine bodyPost_ret (v := .tuple #[.agg #[.int .i64 0, .int .i64 0, .int .i64 0, .slice none 0 0], .slice none 0 0, .iface 56 (.pointer (some ⟨b, 0, none⟩))]) (by simp [results, Tryd.results6, go_sem, d0, d1, d2, d3]) rfl ?_
  exact ⟨b, rfl, chain_kept hkf (fun b cs hc e => tne hc H3.out.2.2 (by decide) e) H3.out.1, h3.trans (hkf.below h3.size fun x hx => by omega)⟩
set_option linter.unusedSimpArgs false in
set_option maxRecDepth 100000 in
set_option maxHeartbeats 4000000 in
theorem collapse_ok {M : Nat} (hS : SortOk M) (n : Nat) (k s : Int) (v : Value) (es : List Sy.Ed) (a : Addr) (w : World) (hA : Sent w 0 a) (hv : BEdges.Has w v es) (hM : es.length ≤ M) (hm : es.length ≤ 100000) (hq : Sy.right n k s es = true) :
    Calls Tryd.prog 6 #[sysV n k s v] w fun r w' => ∃ (ue u : Value) (cl : List Nat), r = .returned (.tuple #[sysV (tog cl) k (sta n cl s) ue, u, .nilIface]) ∧ Cl n es cl ∧ BEdges.Own w' w.heap.size ue (Sy.nf (btw cl es)) ∧ OwnI w' w.heap.size u (natI cl) ∧ Below w.heap.size w w' := by
  obtain ⟨w1, hw1⟩ : ∃ w1, w1 = (w.alloc (.cells #[.int .i64 n, .int .i64 k, .int .i64 s, v] 24)).alloc (.cells #[.int .i64 0, .int .i64 0, .int .i64 0, .slice none 0 0] 24) := ⟨_, rfl⟩
  have hb1 : Below w.heap.size w w1 := by rw [hw1]; exact ((Below.refl _ _).alloc (Nat.le_refl _) _).alloc (by simp) _
  have hg : w1.heap[w.heap.size + 1]? = some (.cells #[.int .i64 0, .int .i64 0, .int .i64 0, .slice none 0 0] 24 (0, 0)) := by rw [hw1]; exact two_alloc w _ _
  have hg0 : w1.heap[w.heap.size]? = some (.cells #[.int .i64 n, .int .i64 k, .int .i64 s, v] 24 (0, 0)) := by rw [hw1, Below.heap_alloc _ _ _ (by simp)]; exact heap_alloc_new w _
  have hN := collapsed_ok hS n k s v es a w1 (hA.below hb1) (hv.below hb1) hM hm hq
  obtain ⟨c0, c1, c2, c3⟩ := four_cells hg0
  have H : Hid _ := And.intro hN (And.intro hb1 (And.intro hg hw1))
  clear hN hb1 hA hv hM hm hq hg hg0 hw1
  unfold sysV at H ⊢
  go_enter Tryd.func6, Tryd.ntmps6
  go_upto_region 1 with fail
  rw [← H.out.2.2.2]
  go_upto_region 5 with (first | (go_at_call 11; refine Calls.mono H.out.1 ?_; rintro r1 w2 ⟨g, bs, bb, cs, cb, u, cl, rfl, hCl, hG, hO, hb⟩; obtain ⟨au, cu, hu⟩ := row_shape hO; obtain ⟨lu, hlu⟩ : ∃ l, l = (natI cl).length := ⟨_, rfl⟩; rw [← hlu] at hu; subst hu; have H2 : Hid _ := And.intro hG (And.intro hCl (And.intro hO hb)); clear hG hCl hO hb hlu) | (go_at_call 13; refine Calls.mono (states_any _ H2.out.1) ?_; rintro r4 w4 ⟨rfl, hw⟩; obtain rfl := hw.symm; clear hw) | (go_at_call 14; refine Calls.mono (tlabels_any _ H2.out.1) ?_; rintro r4 w4 ⟨rfl, hw⟩; obtain rfl := hw.symm; clear hw) | (go_at_call 15; refine Calls.mono (tstart_any _ H2.out.1) ?_; rintro r4 w4 ⟨rfl, hw⟩; obtain rfl := hw.symm; clear hw) | (go_at_call 16; refine Calls.mono (edges_any _ H2.out.1) ?_; rintro r5 w5 ⟨ue, rfl, hE, hb5⟩; obtain ⟨ae, ce, hue⟩ := row_shape hE; obtain ⟨le, hle⟩ : ∃ l, l = (Sy.nf (btw cl es)).length := ⟨_, rfl⟩; rw [← hle] at hue; subst hue; have H5 : Hid _ := And.intro hE hb5; clear hE hb5 hle))
  obtain ⟨w6, hw6⟩ : ∃ w6, w6 = w5.alloc (.cells #[.int .i64 (tog cl : Nat), .int .i64 k, .int .i64 (sta n cl s), .slice ae le ce] 24) := ⟨_, rfl⟩
  rw [← hw6]
  have hb56 : Below w5.heap.size w5 w6 := by rw [hw6]; exact (Below.refl _ _).alloc (Nat.le_refl _) _
  have hb16 : Below w1.heap.size w1 w6 := H2.out.2.2.2.trans ((H5.out.2.trans (hb56.mono H5.out.2.size)).mono H2.out.2.2.2.size)
  have hg6 := (hb16.block _ (t_lt H.out.2.2.1)).trans H.out.2.2.1
  have hs6 : w6.heap[w5.heap.size]? = some (.cells #[.int .i64 (tog cl : Nat), .int .i64 k, .int .i64 (sta n cl s), .slice ae le ce] 24 (0, 0)) := by rw [hw6]; exact heap_alloc_new w5 _
  obtain ⟨z0, z1, z2, z3⟩ := four_cells hg6
  obtain ⟨y0, y1, y2, y3⟩ := four_cells hs6
  have f0 := blk_free hg6 0
  have f1 := blk_free hg6 1
  have f2 := blk_free hg6 2
  have f3 := blk_free hg6 3
  have H6 : Hid _ := And.intro hb56 (And.intro hb16 hg6)
  clear hw6 hb56 hb16 hg6 hs6 c0 c1 c2 c3
  go_wp2_with fail
  obtain ⟨wf, hwf⟩ : ∃ wf, wf = ((((w6.setCell ⟨w.heap.size + 1, 0, none⟩ (.int .i64 (tog cl : Nat))).setCell ⟨w.heap.size + 1, 1, none⟩ (.int .i64 k)).setCell ⟨w.heap.size + 1, 2, none⟩ (.int .i64 (sta n cl s))).setCell ⟨w.heap.size + 1, 3, none⟩ (.slice ae le ce)) := ⟨_, rfl⟩
  rw [← hwf]
  have hgf : wf.heap[w.heap.size + 1]? = some (.cells #[.int .i64 (tog cl : Nat), .int .i64 k, .int .i64 (sta n cl s), .slice ae le ce] 24 (0, 0)) := by rw [hwf]; exact four_set H6.out.2.2
  have hkf : Kept (fun b => b = w.heap.size + 1) w6 wf := by rw [hwf]; exact (((Kept.setCell _ _ _ _).trans (Kept.setCell _ _ _ _)).trans (Kept.setCell _ _ _ _)).trans (Kept.setCell _ _ _ _)
  clear hwf z0 z1 z2 z3 f0 f1 f2 f3 y0 y1 y2 y3
  obtain ⟨d0, d1, d2, d3⟩ := four_cells hgf
  have h6 : Below w.heap.size w w6 := H.out.2.1.trans (H6.out.2.1.mono H.out.2.1.size)
  refine bodyPost_ret (v := .tuple #[.agg #[.int .i64 (tog cl : Nat), .int .i64 k, .int .i64 (sta n cl s), .slice ae le ce], .slice au lu cu, .nilIface]) (by simp [results, Tryd.results6, go_sem, d0, d1, d2, d3]) rfl ?_
  have hO6 := own_up4 H2.out.2.2.1 (H5.out.2.trans (H6.out.1.mono H5.out.2.size))
  have hE6 := edge_up4 H5.out.1 H6.out.1
  refine ⟨_, _, cl, rfl, H2.out.2.1, ?_, ?_, h6.trans (hkf.below h6.size fun x hx => by omega)⟩
  · exact edge_lower (trow_at hE6 fun b hb => hkf.block b (hE6.lt b hb).2 fun e => own_bk hE6 H6.out.2.2 (by decide) (by rw [← e]; exact hb)) (Nat.le_trans H.out.2.1.size H2.out.2.2.2.size)
  · exact own_lower (trow_at hO6 fun b hb => hkf.block b (hO6.lt b hb).2 fun e => own_bk hO6 H6.out.2.2 (by decide) (by rw [← e]; exact hb)) H.out.2.1.size
end Go.Proofs.YtplofbabfkkimaaDoor.Ts
/- Rows of numbers, one for each of so many, that grow one by one. -/
namespace Go.Proofs.YtplofbabfkkimaaDoor
open Go.RowKit Go.Maps
/-- Rows of numbers, one for each state, all of them from B on, no two in one block. -/
structure OutsI (w : World) (B : Nat) (us : List Value) (n : Nat) (f : Nat → List Int) : Prop where
  len : us.length = n
  row : ∀ i, i < n → ∃ u, us[i]? = some u ∧ OwnI w B u (f i)
  ap : ∀ (i j : Nat) (u x : Value) (b : Nat), us[i]? = some u → us[j]? = some x → i ≠ j → u.ownBlock = some b → x.ownBlock ≠ some b
theorem OutsI.below {w w' : World} {B : Nat} {us : List Value} {n : Nat} {f : Nat → List Int} (h : OutsI w B us n f) (hb : Below w.heap.size w w') : OutsI w' B us n f :=
  ⟨h.len, fun i hi => by obtain ⟨u, h1, h2⟩ := h.row i hi; exact ⟨u, h1, trow_at h2 fun b hb' => hb.block b (h2.lt b hb').2⟩, h.ap⟩
theorem outsI_new (w : World) (B n : Nat) : OutsI w B (List.replicate n (.slice none 0 0)) n fun _ => [] :=
  ⟨by simp, fun i hi => ⟨.slice none 0 0, by rw [List.getElem?_replicate, if_pos hi], World.ownsRow_nil _ _ _ _⟩, fun i j u x b h1 _ _ h3 => by
    rw [List.getElem?_replicate] at h1
    split at h1
    · cases h1; cases h3
    · cases h1⟩
/-- One row has grown. -/
theorem OutsI.set {w w' : World} {B : Nat} {us : List Value} {n : Nat} {f : Nat → List Int} (h : OutsI w B us n f) {i : Nat} {u u' : Value} {F : Nat → Prop} (hi : i < n) (hu : us[i]? = some u) (hk : Kept F w w') (hF : ∀ b, F b → u.ownBlock = some b ∨ ∀ (j : Nat) (x : Value), us[j]? = some x → x.ownBlock ≠ some b) {zs : List Int} (hO : OwnI w' B u' zs) (hat : u'.ownBlock = u.ownBlock ∨ ∀ b, u'.ownBlock = some b → w.heap.size ≤ b) :
    OutsI w' B (us.set i u') n (fun j => if j = i then zs else f j) := by
  refine ⟨by rw [List.length_set]; exact h.len, fun j hj => ?_, fun a c x y b hx hy hac hb => ?_⟩
  · by_cases e : j = i
    · subst e
      exact ⟨u', List.getElem?_set_self (by rw [h.len]; exact hj), by rw [if_pos rfl]; exact hO⟩
    · obtain ⟨x, h1, h2⟩ := h.row j hj
      refine ⟨x, by rw [List.getElem?_set_ne (fun e' => e e'.symm)]; exact h1, ?_⟩
      rw [if_neg e]
      refine own_up h2 hk fun b hb hf => ?_
      rcases hF b hf with hf | hf
      · exact h.ap j i x u b h1 hu e hb hf
      · exact hf j x h1 hb
  · have hold : ∀ (j : Nat) (z : Value), us[j]? = some z → j ≠ i → ∀ b, z.ownBlock = some b → u'.ownBlock ≠ some b := fun j z hz hj b hzb e => by
      rcases hat with h1 | h1
      · rw [h1] at e; exact h.ap j i z u b hz hu hj hzb e
      · have h2 := h1 b e
        obtain ⟨z', h3, h4⟩ := h.row j (by have := (List.getElem?_eq_some_iff.1 hz).1; rw [h.len] at this; exact this)
        rw [hz] at h3; cases h3
        have := (h4.lt b hzb).2
        omega
    by_cases ea : a = i
    · subst ea
      rw [List.getElem?_set_self (by rw [h.len]; exact hi)] at hx
      cases hx
      rw [List.getElem?_set_ne hac] at hy
      exact fun e => hold c y hy (fun e' => hac e'.symm) b e hb
    · rw [List.getElem?_set_ne (fun e' => ea e'.symm)] at hx
      by_cases ec : c = i
      · subst ec
        rw [List.getElem?_set_self (by rw [h.len]; exact hi)] at hy
        cases hy
        exact hold a x hx ea b hb
      · rw [List.getElem?_set_ne (fun e' => ec e'.symm)] at hy
        exact h.ap a c x y b hx hy hac hb
theorem OutsI.congr {w : World} {B : Nat} {us : List Value} {n : Nat} {f g : Nat → List Int} (h : OutsI w B us n f) (hfg : ∀ i, i < n → f i = g i) : OutsI w B us n g :=
  ⟨h.len, fun i hi => by rw [← hfg i hi]; exact h.row i hi, h.ap⟩
theorem OutsI.kept {w w' : World} {B : Nat} {us : List Value} {n : Nat} {f : Nat → List Int} {F : Nat → Prop} (h : OutsI w B us n f) (hk : Kept F w w') (hF : ∀ (j : Nat) (x : Value), us[j]? = some x → ∀ b, x.ownBlock = some b → ¬ F b) : OutsI w' B us n f :=
  ⟨h.len, fun i hi => by obtain ⟨u, h1, h2⟩ := h.row i hi; exact ⟨u, h1, own_up h2 hk fun b hb => hF i u h1 b hb⟩, h.ap⟩
/-- One row more long, its slice laid into the list of rows. -/
theorem outsI_grow {w wr w4 : World} {g n i N g4 k4 cu : Nat} {au : Option Addr} {us : List Value} {f : Nat → List Int} (z : Int) (hOs : OutsI wr w.heap.size us n f) (hi : i < n) (hu : us[i]? = some (.slice au N cu)) (hN : N = (f i).length) (hown : w4.ownsRow w.heap.size 3 1 (.slice (some ⟨g4, 0, none⟩) (N + 1) k4) (N + 1) (iC (f i) ++ [.int .i64 z])) (hk : Kept (fun b => (Value.slice au N cu).ownBlock = some b) wr w4) (hat : (Value.slice au N cu).ownBlock = some g4 ∨ g4 = wr.heap.size + 1) (hA4 : Arr 26 w w4 g us) :
    Arr 26 w (w4.setCell ⟨g, i, none⟩ (.slice (some ⟨g4, 0, none⟩) (N + 1) k4)) g (us.set i (.slice (some ⟨g4, 0, none⟩) (N + 1) k4)) ∧ OutsI (w4.setCell ⟨g, i, none⟩ (.slice (some ⟨g4, 0, none⟩) (N + 1) k4)) w.heap.size (us.set i (.slice (some ⟨g4, 0, none⟩) (N + 1) k4)) n (fun j => if j = i then f i ++ [z] else f j) ∧ Kept (fun b => b = g ∨ (Value.slice au N cu).ownBlock = some b) wr (w4.setCell ⟨g, i, none⟩ (.slice (some ⟨g4, 0, none⟩) (N + 1) k4)) := by
  have hO : OwnI w4 w.heap.size (.slice (some ⟨g4, 0, none⟩) (N + 1) k4) (f i ++ [z]) := by
    unfold OwnI
    have e1 : (f i ++ [z]).length = N + 1 := by rw [List.length_append, hN]; rfl
    rw [e1, show iC (f i ++ [z]) = iC (f i) ++ [.int .i64 z] by simp [iC]]
    exact hown
  have h1 := hOs.set (F := fun b => (Value.slice au N cu).ownBlock = some b) hi hu hk (fun b hb => .inl hb) hO (by
    rcases hat with h | h
    · exact .inl h.symm
    · exact .inr fun b hb => by have e9 : g4 = b := Option.some.inj hb
                                omega)
  refine ⟨hA4.set i _, ?_, ?_⟩
  · refine h1.kept (Kept.setCell w4 g i _) fun j x hx b hb e => ?_
    obtain ⟨cs, hc, _⟩ := hA4.ids
    obtain ⟨x', h2, h3⟩ := h1.row j (by have := (List.getElem?_eq_some_iff.1 hx).1; rw [h1.len] at this; exact this)
    rw [hx] at h2; cases h2
    exact own_bk h3 hc (by decide) (by rw [← e]; exact hb)
  · exact (hk.mono fun b _ hb => .inr hb).trans ((Kept.setCell w4 g i _).mono fun b _ hb => .inl hb)
theorem OutsI.base {w : World} {B B' : Nat} {us : List Value} {n : Nat} {f : Nat → List Int} (h : OutsI w B us n f) (hb : B' ≤ B) : OutsI w B' us n f :=
  ⟨h.len, fun i hi => by obtain ⟨u, h1, h2⟩ := h.row i hi; exact ⟨u, h1, row_base h2 hb⟩, h.ap⟩
end Go.Proofs.YtplofbabfkkimaaDoor
/- tauscc: the contract of Order. -/
namespace Go.Proofs.YtplofbabfkkimaaDoor.Ts
open Go.RowKit Go.Maps
attribute [local go_sem ↓] Go.wp_at_zero Go.wp_at_succ
theorem infoRT : (Tryd.prog.info? 26).map (fun i => (i.zero, i.size, i.bytes)) = some (some (.slice none 0 0), 1, 24) := by kernel_rfl
theorem makeRT (n : Nat) (hn : n ≤ 1000000) (w : World) : (Instr.makeSlice 50 (.int .i64 (n : Int)) (.int .i64 (n : Int))).run Tryd.prog w = .ok (.slice (some ⟨w.heap.size, 0, none⟩) n n) (w.alloc (.cells (madeV (.slice none 0 0) n) 26)) := make_of _ _ _ 24 Tryd.underlying50 infoRT n hn (by decide) w
theorem natI_at {l : List Nat} {i x : Nat} (h : l[i]? = some x) : (natI l)[i]? = some (x : Int) := by simp [natI, h]
theorem cast_at {l : List Nat} {i x : Nat} (h : l[i]? = some x) : (cast l)[i]? = some (x : Int) := by simp [cast, h]
theorem flat_next {l : List Nat} {i x : Nat} (h : l[i]? = some x) (f : Nat → List Int) : (l.take (i + 1)).flatMap f = (l.take i).flatMap f ++ f x := by
  obtain ⟨h1, h2⟩ := List.getElem?_eq_some_iff.1 h
  rw [List.take_succ_eq_append_getElem h1, h2, List.flatMap_append]
  simp
theorem flat_len {f : Nat → List Int} {c : Nat} (h : ∀ x, (f x).length ≤ c) (l : List Nat) : (l.flatMap f).length ≤ l.length * c := by
  induction l with
  | nil => simp
  | cons a r ih => rw [List.flatMap_cons, List.length_append, List.length_cons, Nat.succ_mul]; have := h a; omega
set_option linter.unusedSimpArgs false in
set_option maxRecDepth 100000 in
set_option maxHeartbeats 4000000 in
theorem order_ok {M : Nat} (hS : SortOk M) (n : Nat) (k s : Int) (v : Value) (es : List Sy.Ed) (a : Addr) (w : World) (hA : Sent w 0 a) (hv : BEdges.Has w v es) (hM : es.length ≤ M) (hm : es.length ≤ 100000) (hq : Sy.right n k s es = true) :
    Calls Tryd.prog 9 #[sysV n k s v] w fun r w' => ∃ (u : Value) (cl od : List Nat), r = .returned (.tuple #[u, .nilIface]) ∧ Cl n es cl ∧ Grd (tog cl) (sil (tog cl) (btw cl es)) od ∧ (∀ x, ¬ Rd (tog cl) (sil (tog cl) (btw cl es)) od x) ∧ OwnI w' w.heap.size u (od.flatMap (memI cl)) ∧ Below w.heap.size w w' := by
  obtain ⟨i0, hi0, hz0, hz1, hz2⟩ := info_parts Tryd.infoI4
  have hb1 := fun o => (Below.refl w.heap.size w).alloc (Nat.le_refl _) o
  have hN := fun o => collapsed_ok hS n k s v es a (w.alloc o) (hA.below (hb1 o)) (hv.below (hb1 o)) hM hm hq
  have hn1 : n ≤ 1000 := by have := (right_parts hq).1.2; omega
  have H : Hid _ := And.intro hN hb1
  clear hN hb1 hA hv hM hm hq
  unfold sysV at H ⊢
  go_enter Tryd.func9, Tryd.ntmps9
  go_upto_region 4 with (go_at_call 11; refine Calls.mono (H.out.1 _) ?_; rintro r1 w2 ⟨g, bs, bb, cs, cb, u, cl, rfl, hCl, hG, hO, hb⟩; obtain ⟨au, cu, hu⟩ := row_shape hO; obtain ⟨lu, hlu⟩ : ∃ l, l = (natI cl).length := ⟨_, rfl⟩; rw [← hlu] at hu; subst hu; have H2 : Hid _ := And.intro hG (And.intro hCl (And.intro hO (And.intro hb hlu))); clear hG hCl hO hb hlu)
  have hlc : lu = cl.length := by rw [H2.out.2.2.2.2]; simp [natI]
  have hlu : lu ≤ 1000 := by have h2 := H2.out.2.1.len; omega
  obtain ⟨m, hmt⟩ : ∃ m, m = tog cl := ⟨_, rfl⟩
  have hm1 : m ≤ 1000 := by rw [hmt]; exact H2.out.1.sizes.1
  have hSt := states_any w2 H2.out.1
  have hEF := fun W (hb : Below w2.heap.size w2 W) => endsFirst_any W (H2.out.1.below hb)
  have hmk := makeRT m (by omega) w2
  have hA0 := arr_new 26 (.slice none 0 0) rfl m w2
  rw [← hmt] at hSt hEF
  obtain ⟨w3, hw3⟩ : ∃ w3, w3 = w2.alloc (.cells (madeV (.slice none 0 0) m) 26) := ⟨_, rfl⟩
  rw [← hw3] at hmk hA0
  have H3 : Hid _ := And.intro hSt (And.intro hEF (And.intro hA0 (And.intro hmt hlc)))
  clear hSt hEF hA0 hmt hw3 hlc
  go_wp2_with (go_at_call 13; refine Calls.mono H3.out.1 ?_; rintro r3 w4 ⟨rfl, hw⟩; obtain rfl := hw.symm; clear hw)
  clear hmk
  go_loopg [28] lu (fun q s28 wx => ∃ (i : Nat) (us : List Value), q = lu - i ∧ i ≤ lu ∧ s28 = .int .i64 i ∧ Arr 26 w2 wx w2.heap.size us ∧ OutsI wx w2.heap.size us m (memI (cl.take i)))
  case atStart => exact ⟨0, _, rfl, Nat.zero_le _, rfl, H3.out.2.2.1, (outsI_new _ _ _).congr fun i _ => by simp [memI]⟩
  case round =>
    obtain ⟨i, us, rfl, hi, rfl, hA, hOs⟩ := hrel
    by_cases hlt : i < lu
    · obtain ⟨x, hx⟩ : ∃ x, cl[i]? = some x := ⟨cl[i]'(by have := H3.out.2.2.2.2; omega), List.getElem?_eq_getElem _⟩
      have hxm : x < m := by rw [H3.out.2.2.2.1]; exact H2.out.2.1.lt hx
      obtain ⟨ao9, cap9, he9, hc9⟩ := OwnI.has (own_up4 H2.out.2.2.1 hA.bl)
      obtain ⟨a9, ha9, d0⟩ := hc9 i (x : Int) (natI_at hx)
      injection he9 with e1 e2 e3
      subst e3
      rw [ha9] at e1
      clear hc9 ha9 e2
      subst e1
      obtain ⟨uu, hu, hOu⟩ := hOs.row x hxm
      obtain ⟨ar, cr, rfl⟩ := row_shape hOu
      obtain ⟨N, hN⟩ : ∃ N, N = (memI (cl.take i) x).length := ⟨_, rfl⟩
      have hNl : N ≤ 1000000 := by
        have h1 := memI_len (cl.take i) x
        rw [List.length_take] at h1
        omega
      rw [← hN] at hu
      have hOu' : wr.ownsRow w2.heap.size 3 1 (.slice ar N cr) N (iC (memI (cl.take i) x)) := by have h1 := hOu; unfold OwnI at h1; rw [← hN] at h1; exact h1
      have cu0 := hA.cell hu
      have cu1 : (wr.alloc (.cells #[.int .i64 (i : Int)] 3)).cell? ⟨w2.heap.size, x, none⟩ = some (.slice ar N cr) := cell_up cu0 ((Below.refl _ _).alloc (Nat.le_refl _) _)
      have cuf := hA.free x
      have hgw := hA.lt
      have hml : N + 1 ≤ maxLen := by unfold maxLen; omega
      have hby : (N + 1) * 8 ≤ 140737488355328 := by omega
      have HKP : Hid (∀ b, (Value.slice ar N cr).ownBlock = some b → w2.heap.size ≤ b ∧ b ≠ w2.heap.size) := (fun b hb => ⟨(hOu'.lt b hb).1, fun e => by
        obtain ⟨cs9, hc9, _⟩ := hA.ids
        exact own_bk hOu' hc9 (by decide) (by rw [← e]; exact hb)⟩ : ∀ b, (Value.slice ar N cr).ownBlock = some b → w2.heap.size ≤ b ∧ b ≠ w2.heap.size)
      have hsz := hA.bl.size
      have p0 : (0 : Int) ≤ (i : Int) := by omega
      have p1 : (i : Int) < (lu : Int) := by omega
      have p2 : (0 : Int) ≤ (x : Int) := by omega
      have p3 : (x : Int) < (m : Int) := by omega
      have p5 : IntKind.i64.wrap ((i : Int) + 1) = (i : Int) + 1 := by rw [IntKind.wrap_i64]; omega
      have HB : Hid _ := And.intro hA (And.intro hOs (And.intro hu (And.intro hOu' (And.intro hN (And.intro hx hxm)))))
      clear hA hOs hu hOu hOu' hN hx hxm
      go_wp2_with (at_builtin; refine wpList_append_lies _ rfl _ _ 26 rfl w2.heap.size 3 i0 (.int .i64 0) 1 8 Tryd.underlying26 hi0 hz0 hz1 hz2 rfl (by decide) (.slice ar N cr) N (iC (memI (cl.take i) x)) rfl (HB.out.2.2.2.1.alloc _) ⟨wr.heap.size, 0, none⟩ 1 1 [.int .i64 (i : Int)] rfl rfl (World.news_of_block (cs := #[.int .i64 (i : Int)]) (t := 3) (fr := (0, 0)) (heap_alloc_new wr _)) (by simp [Value.oneCell']) Nat.one_pos hml hby (by simp; omega) (wr.heap.size + 1) (by simp) ?_; intro g4 k4 w4 hown4 hgrow4 hat4 hlt4; have hk4 : Kept (fun b => (Value.slice ar N cr).ownBlock = some b) wr w4 := grown_alloc hgrow4; have hA4 := HB.out.1.kept hk4 HKP.out; have cu2 := hA4.cell HB.out.2.2.1; have cuf2 := hA4.free x; have H4 : Hid _ := And.intro hown4 (And.intro hk4 (And.intro hat4 hA4)); clear hown4 hgrow4 hat4 hlt4 hk4 hA4 cu0 cu1)
      have hG := outsI_grow (i : Int) HB.out.2.1 HB.out.2.2.2.2.2.2 HB.out.2.2.1 HB.out.2.2.2.2.1 H4.out.1 H4.out.2.1 H4.out.2.2.1 H4.out.2.2.2
      have HG : Hid _ := hG
      clear hG cu2 cuf2
      go_roundg (lu - (i + 1))
      case measure => omega
      case rel => exact ⟨i + 1, _, rfl, by omega, by go_num, HG.out.1, HG.out.2.1.congr fun c _ => memI_next HB.out.2.2.2.2.2.1 c⟩
    · obtain rfl : lu = i := by omega
      have p1 : ¬ (lu : Int) < (lu : Int) := by omega
      rw [H3.out.2.2.2.2, List.take_length] at hOs
      have H5 : Hid _ := And.intro hA hOs
      obtain ⟨wo, rfl⟩ : ∃ wo, wo = wr := ⟨_, rfl⟩
      clear hA hOs hi hlt
      go_wp2_with (go_at_call 20; refine Calls.mono (H3.out.2.1 _ H5.out.1.bl) ?_; rintro r6 w6 ⟨u6, od, rfl, hg6, hn6, hO6, hb6⟩; obtain ⟨a6, c6, hu6⟩ := row_shape hO6; obtain ⟨L, hL⟩ : ∃ L, L = od.length := ⟨_, rfl⟩; rw [cast_length, ← hL] at hu6; subst hu6; have H6 : Hid _ := And.intro hg6 (And.intro hn6 (And.intro hO6 (And.intro hb6 hL))); clear hg6 hn6 hO6 hb6 hL)
      have hL1 : L ≤ 1000 := by rw [H6.out.2.2.2.2]; have := H6.out.1.le; omega
      have hlen := fun x => memI_len cl x
      rw [← H3.out.2.2.2.2] at hlen
      have H7 : Hid _ := hlen
      clear hlen
      go_loopg [10, 47] L (fun q s10 s47 wx => ∃ (j : Nat), q = L - j ∧ j ≤ L ∧ s47 = .int .i64 j ∧ Below w6.heap.size w6 wx ∧ OwnI wx w6.heap.size s10 ((od.take j).flatMap (memI cl)))
      case atStart => exact ⟨0, rfl, Nat.zero_le _, rfl, Below.refl _ _, World.ownsRow_nil _ _ _ _⟩
      case round =>
        obtain ⟨j, rfl, hj, rfl, hbl, hO⟩ := hrel
        obtain ⟨ao, co, hs10⟩ := row_shape hO
        obtain ⟨N, hN⟩ : ∃ N, N = ((od.take j).flatMap (memI cl)).length := ⟨_, rfl⟩
        have hNl : N ≤ 1000000000 := by
          have h1 := flat_len H7.out (od.take j)
          rw [List.length_take] at h1
          have h2 : (min j od.length) * lu ≤ 1000 * 1000 := Nat.mul_le_mul (by omega) hlu
          omega
        rw [← hN] at hs10
        subst hs10
        have hO' : wr.ownsRow w6.heap.size 3 1 (.slice ao N co) N (iC ((od.take j).flatMap (memI cl))) := by have h1 := hO; unfold OwnI at h1; rw [← hN] at h1; exact h1
        by_cases hlt : j < L
        · obtain ⟨c, hc⟩ : ∃ c, od[j]? = some c := ⟨od[j]'(by have := H6.out.2.2.2.2; omega), List.getElem?_eq_getElem _⟩
          have hcm : c < m := H6.out.1.lt c (List.mem_of_getElem? hc)
          obtain ⟨ao9, cap9, he9, hc9⟩ := OwnI.has (own_up4 H6.out.2.2.1 hbl)
          obtain ⟨a9, ha9, d0⟩ := hc9 j (c : Int) (cast_at hc)
          injection he9 with e1 e2 e3
          subst e3
          rw [ha9] at e1
          clear hc9 ha9 e2
          subst e1
          obtain ⟨uu, hu, hOu⟩ := H5.out.2.row c hcm
          have hbo := H6.out.2.2.2.1
          have hup : Below wo.heap.size wo wr := hbo.trans (hbl.mono hbo.size)
          have cu0 := cell_up (H5.out.1.cell hu) hup
          have hOu2 := own_up4 hOu hup
          obtain ⟨ar, cr, hr⟩ := row_shape hOu2
          obtain ⟨K, hK⟩ : ∃ K, K = (memI cl c).length := ⟨_, rfl⟩
          rw [← hK] at hr
          subst hr
          have hK1 : 0 < K := by rw [hK]; exact memI_some H2.out.2.1 (by rw [← H3.out.2.2.2.1]; exact hcm)
          have hKl : K ≤ lu := by rw [hK]; exact H7.out c
          obtain ⟨ao8, cap8, he8, hc8⟩ := OwnI.has hOu2
          obtain ⟨a8, ha8, -⟩ := hc8 0 ((memI cl c)[0]'(by omega)) (List.getElem?_eq_getElem _)
          injection he8 with e1 e2 e3
          rw [ha8] at e1
          subst e1
          have hnews : ∀ (j : Nat) (u : Value), (iC (memI cl c))[j]? = some u → wr.cell? (a8.add j) = some u := fun j u hj => by
            obtain ⟨z, hz, rfl⟩ := iC_at hj
            obtain ⟨a7, h7, h8⟩ := hc8 j z hz
            rw [ha8] at h7
            cases h7
            exact h8
          have hone : ∀ u ∈ iC (memI cl c), u.oneCell' = true := fun u hu => by
            simp only [iC, List.mem_map] at hu
            obtain ⟨z, _, rfl⟩ := hu
            rfl
          have hil : (iC (memI cl c)).length = K * 1 := by rw [hK]; simp [iC]
          have p0 : (0 : Int) ≤ (j : Int) := by omega
          have p1 : (j : Int) < (L : Int) := by omega
          have p2 : (0 : Int) ≤ (c : Int) := by omega
          have p3 : (c : Int) < (m : Int) := by omega
          have p5 : IntKind.i64.wrap ((j : Int) + 1) = (j : Int) + 1 := by rw [IntKind.wrap_i64]; omega
          have hml : N + K ≤ maxLen := by unfold maxLen; omega
          have hby : (N + K) * 8 ≤ 140737488355328 := by omega
          have hsz := hbl.size
          have H8 : Hid _ := And.intro hbl (And.intro hO' (And.intro hN (And.intro hK hc)))
          have H9 : Hid _ := And.intro hnews (And.intro hone hil)
          clear hbl hO' hN hc hK hnews hone hil hO hOu hOu2 hu hup hbo hc8 ha8 e2 e3 hcm
          go_wp2_with (at_builtin; refine wpList_append_own_at _ rfl _ _ 26 rfl w6.heap.size 3 i0 (.int .i64 0) 1 8 Tryd.underlying26 hi0 hz0 hz1 hz2 rfl (by decide) (.slice ao N co) N (iC ((od.take j).flatMap (memI cl))) rfl H8.out.2.1 a8 K cr (iC (memI cl c)) rfl H9.out.2.2 H9.out.1 H9.out.2.1 hml hby hsz ?_; intro v5 w5 hO5 hg5 hnil5 hat5; have HX : Hid _ := And.intro hO5 hg5; clear hO5 hg5 hnil5 hat5)
          go_roundg (L - (j + 1))
          case measure => omega
          case rel =>
            refine ⟨j + 1, rfl, by omega, by go_num, H8.out.1.trans ((Kept.of_grown HX.out.2).below H8.out.1.size fun b hb => (H8.out.2.1.lt b hb).1), ?_⟩
            rw [flat_next H8.out.2.2.2.2]
            unfold OwnI
            rw [List.length_append, ← H8.out.2.2.1, ← H8.out.2.2.2.1, show iC ((od.take j).flatMap (memI cl) ++ memI cl c) = iC ((od.take j).flatMap (memI cl)) ++ iC (memI cl c) by simp [iC]]
            exact HX.out.1
        · obtain rfl : L = j := by omega
          have p1 : ¬ (L : Int) < (L : Int) := by omega
          rw [H6.out.2.2.2.2, List.take_length] at hO
          have H8 : Hid _ := And.intro hbl hO
          clear hbl hO hO' hN hj hlt
          go_wp2_with fail
          go_ret2
          have b2 := (H.out.2 _).trans (H2.out.2.2.2.1.mono (H.out.2 _).size)
          have b6 := b2.trans ((H5.out.1.bl.trans (H6.out.2.2.2.1.mono H5.out.1.bl.size)).mono b2.size)
          exact ⟨_, rfl, cl, H2.out.2.1, od, by rw [← H3.out.2.2.2.1]; exact H6.out.1, by rw [← H3.out.2.2.2.1]; exact H6.out.2.1, own_lower H8.out.2 b6.size, b6.trans (H8.out.1.mono b6.size)⟩
end Go.Proofs.YtplofbabfkkimaaDoor.Ts
/- tauscc: a collapsed system has no cycle, and its order is whole: plain facts. -/
namespace Go.Proofs.YtplofbabfkkimaaDoor.Ts
theorem Grd.take {n : Nat} {out : Nat → List Nat} {od : List Nat} (h : Grd n out od) : ∀ j, Grd n out (od.take j) := by
  induction h with
  | nil => intro j; rw [List.take_nil]; exact .nil
  | @snoc od t h1 h2 h3 ih =>
    intro j
    by_cases hj : j ≤ od.length
    · rw [List.take_append_of_le_length hj]; exact ih j
    · rw [List.take_of_length_le (by rw [List.length_append, List.length_singleton]; omega)]; exact h1.snoc h2 h3
theorem Grd.next {n : Nat} {out : Nat → List Nat} {od : List Nat} (h : Grd n out od) : ∀ {j t : Nat}, od[j]? = some t → Rd n out (od.take j) t := by
  induction h with
  | nil => intro j t ht; simp at ht
  | @snoc od s h1 h2 h3 ih =>
    intro j t ht
    by_cases hj : j < od.length
    · rw [List.getElem?_append_left hj] at ht
      rw [List.take_append_of_le_length (by omega)]
      exact ih ht
    · have hl := (List.getElem?_eq_some_iff.1 ht).1
      rw [List.length_append, List.length_singleton] at hl
      obtain rfl : j = od.length := by omega
      rw [List.getElem?_append_right (Nat.le_refl _), Nat.sub_self, List.getElem?_cons_zero] at ht
      cases ht
      rw [List.take_left']
      · exact h2
      · rfl
theorem Grd.le_max {n : Nat} {out : Nat → List Nat} {od od' : List Nat} (h : Grd n out od) (hm : ∀ x, ¬ Rd n out od x) (h' : Grd n out od') : od'.length ≤ od.length := by
  rcases Nat.lt_or_ge od.length od'.length with hlt | hge
  · have e : od = od'.take od.length := h.one (h'.take _) (by rw [List.length_take]; omega)
    have h2 := h'.next (List.getElem?_eq_getElem hlt)
    rw [← e] at h2
    exact absurd h2 (hm _)
  · exact hge
theorem Grd.same {n : Nat} {out : Nat → List Nat} {od od' : List Nat} (h : Grd n out od) (hm : ∀ x, ¬ Rd n out od x) (h' : Grd n out od') (hm' : ∀ x, ¬ Rd n out od' x) : od = od' :=
  h.one h' (Nat.le_antisymm (h'.le_max hm' h) (h.le_max hm h'))
/-- No cycle, and steps stay below n. -/
structure Acy (n : Nat) (out : Nat → List Nat) : Prop where
  ins : ∀ u, u < n → ∀ t ∈ out u, t < n
  acy : ∀ u v, u < n → v < n → Rt out u v → Rt out v u → u = v
  self : ∀ u, u < n → u ∉ out u
theorem countP_lt_of {p q : Nat → Bool} : ∀ (l : List Nat), (∀ z ∈ l, p z = true → q z = true) → (∃ a ∈ l, q a = true ∧ p a = false) → l.countP p < l.countP q
  | [], _, ⟨a, ha, _⟩ => by cases ha
  | b :: r, h, ⟨a, ha, h1, h2⟩ => by
    have hle : r.countP p ≤ r.countP q := List.countP_mono_left fun x hx hp => h x (List.mem_cons_of_mem _ hx) hp
    rw [List.countP_cons, List.countP_cons]
    rcases List.mem_cons.1 ha with rfl | ha
    · rw [h1, h2]; simp; omega
    · have ih := countP_lt_of r (fun z hz => h z (List.mem_cons_of_mem _ hz)) ⟨a, ha, h1, h2⟩
      have hb := h b List.mem_cons_self
      by_cases hp : p b = true
      · rw [hp, hb hp]; simp; omega
      · rw [Bool.not_eq_true] at hp
        rw [hp]
        by_cases hq : q b = true
        · rw [hq]; simp; omega
        · rw [Bool.not_eq_true] at hq
          rw [hq]; simp; omega
open Classical in
/-- How many states one comes to. -/
noncomputable def rch (n : Nat) (out : Nat → List Nat) (x : Nat) : Nat := (List.range n).countP fun z => decide (Rt out x z)
open Classical in
theorem rch_lt {n : Nat} {out : Nat → List Nat} (h : Acy n out) {x y : Nat} (hx : x < n) (hy : y ∈ out x) : rch n out y < rch n out x := by
  unfold rch
  refine countP_lt_of _ (fun z _ hz => ?_) ⟨x, List.mem_range.2 hx, by simp; exact Rt.refl x, ?_⟩
  · simp only [decide_eq_true_eq] at hz ⊢
    exact (Rt.one hy).trans hz
  · simp only [decide_eq_false_iff_not]
    intro hyx
    have := h.acy x y hx (h.ins x hx y hy) (Rt.one hy) hyx
    subst this
    exact h.self x hx hy
theorem Grd.whole {n : Nat} {out : Nat → List Nat} {od : List Nat} (hA : Acy n out) (hm : ∀ x, ¬ Rd n out od x) : ∀ (k x : Nat), x < n → rch n out x < k → x ∈ od
  | 0, _, _, h => absurd h (Nat.not_lt_zero _)
  | k + 1, x, hx, h => by
    by_cases hxo : x ∈ od
    · exact hxo
    · refine absurd ⟨hx, hxo, fun y hy => ?_⟩ (hm x)
      exact Grd.whole hA hm k y (hA.ins x hx y hy) (by have := rch_lt hA hx hy; omega)
theorem Grd.all {n : Nat} {out : Nat → List Nat} {od : List Nat} (h : Grd n out od) (hA : Acy n out) (hm : ∀ x, ¬ Rd n out od x) : od.length = n ∧ ∀ x, x < n → x ∈ od := by
  have h1 : ∀ x, x < n → x ∈ od := fun x hx => Grd.whole hA hm (rch n out x + 1) x hx (Nat.lt_succ_self _)
  refine ⟨Nat.le_antisymm h.le ?_, h1⟩
  have h2 := nodup_sub (List.range n) od List.nodup_range fun x hx => h1 x (List.mem_range.1 hx)
  rwa [List.length_range] at h2
/-- An edge that stays. -/
theorem btw_mem {cl : List Nat} {es : List Sy.Ed} {y : Sy.Ed} : y ∈ btw cl es ↔ ∃ e ∈ es, keep cl e = true ∧ y = Ts.onto cl e := by
  unfold btw
  rw [List.mem_map]
  constructor
  · rintro ⟨e, he, rfl⟩
    obtain ⟨h1, h2⟩ := List.mem_filter.1 he
    exact ⟨e, h1, h2, rfl⟩
  · rintro ⟨e, h1, h2, rfl⟩
    exact ⟨e, List.mem_filter.2 ⟨h1, h2⟩, rfl⟩
theorem Cl.edge {n : Nat} {k s : Int} {es : List Sy.Ed} {cl : List Nat} (h : Cl n es cl) (hr : Sy.right n k s es = true) {a b : Nat} (ha : a < tog cl) (hb : b ∈ sil (tog cl) (btw cl es) a) : ∃ p q : Nat, p < n ∧ q < n ∧ cl[p]? = some a ∧ cl[q]? = some b ∧ q ∈ sil n es p ∧ a ≠ b := by
  obtain ⟨e, he, hk, hy⟩ := btw_mem.1 ((sil_mem (small_right h hr) ha).1 hb)
  have h1 := (right_parts hr).2.2.2.2.2 e he
  obtain ⟨p, hp⟩ : ∃ p : Nat, e.1 = (p : Int) := ⟨e.1.toNat, by omega⟩
  obtain ⟨q, hq⟩ : ∃ q : Nat, e.2.2 = (q : Int) := ⟨e.2.2.toNat, by omega⟩
  have hpn : p < n := by omega
  have hqn : q < n := by omega
  have gp : cl[p]? = some (cl[p]'(by rw [h.len]; exact hpn)) := List.getElem?_eq_getElem _
  have gq : cl[q]? = some (cl[q]'(by rw [h.len]; exact hqn)) := List.getElem?_eq_getElem _
  have e1 := cla_at gp
  have e2 := cla_at gq
  unfold Ts.onto at hy
  rw [hp, hq] at hy
  simp only [Prod.mk.injEq] at hy
  obtain ⟨y1, y2, y3⟩ := hy
  have z1 : cl[p]? = some a := by rw [gp]; congr 1; omega
  have z2 : cl[q]? = some b := by rw [gq]; congr 1; omega
  refine ⟨p, q, hpn, hqn, z1, z2, (sil_mem hr hpn).2 (by rw [← hp, ← hq, y2]; exact he), fun hab => ?_⟩
  unfold keep at hk
  rw [← y2, hp, hq, ← y1, ← y3, hab] at hk
  simp at hk
theorem Cl.lift {n : Nat} {k s : Int} {es : List Sy.Ed} {cl : List Nat} (h : Cl n es cl) (hr : Sy.right n k s es = true) {a b : Nat} (hR : Rt (sil (tog cl) (btw cl es)) a b) (ha : a < tog cl) : b < tog cl ∧ ∀ u v, u < n → v < n → cl[u]? = some a → cl[v]? = some b → Rt (sil n es) u v := by
  induction hR with
  | refl => exact ⟨ha, fun u v hu hv h1 h2 => ((h.iff u v hu hv).1 (by rw [h1, h2])).1⟩
  | @step x y hxy hy ih =>
    obtain ⟨p, q, hp, hq, z1, z2, z3, _⟩ := h.edge hr ih.1 hy
    refine ⟨h.lt z2, fun u v hu hv h1 h2 => ?_⟩
    exact ((ih.2 u p hu hp h1 z1).step z3).trans ((h.iff q v hq hv).1 (by rw [z2, h2])).1
theorem Cl.acy {n : Nat} {k s : Int} {es : List Sy.Ed} {cl : List Nat} (h : Cl n es cl) (hr : Sy.right n k s es = true) : Acy (tog cl) (sil (tog cl) (btw cl es)) := by
  have hlt : ∀ {u x : Nat}, cl[u]? = some x → u < n := fun hx => by have := (List.getElem?_eq_some_iff.1 hx).1; rwa [h.len] at this
  refine ⟨fun u hu t ht => ?_, fun u v hu hv h1 h2 => ?_, fun u hu hs => ?_⟩
  · obtain ⟨p, q, _, _, _, z2, _⟩ := h.edge hr hu ht
    exact h.lt z2
  · obtain ⟨p, hp⟩ := h.onto hu
    obtain ⟨q, hq⟩ := h.onto hv
    have g := (h.iff p q (hlt hp) (hlt hq)).2 ⟨(h.lift hr h1 hu).2 p q (hlt hp) (hlt hq) hp hq, (h.lift hr h2 hv).2 q p (hlt hq) (hlt hp) hq hp⟩
    rw [hp, hq] at g
    exact Option.some.inj g
  · obtain ⟨p, q, _, _, _, _, _, hne⟩ := h.edge hr hu hs
    exact hne rfl
theorem sil_nf (m : Nat) (L : List Sy.Ed) (q : Nat) : sil m (Sy.nf L) q = sil m L q := by unfold sil; rw [Sy.nf_idem]
theorem Acy.nf {m : Nat} {L : List Sy.Ed} (h : Acy m (sil m L)) : Acy m (sil m (Sy.nf L)) := by
  have e : sil m (Sy.nf L) = sil m L := funext fun q => sil_nf m L q
  rw [e]
  exact h
/-- Of a system without a cycle the classes are the states. -/
theorem canonG_nodup (l : List Int) : ∀ seen : List Int, l.Nodup → (∀ z ∈ l, z ∉ seen) → Sy.canonG seen l = List.range' seen.length l.length := by
  induction l with
  | nil => intro seen _ _; rfl
  | cons c r ih =>
    intro seen h1 h2
    obtain ⟨h3, h4⟩ := List.nodup_cons.1 h1
    have hc := h2 c List.mem_cons_self
    have hp := Sy.place_not hc
    simp only [Sy.canonG]
    rw [hp, if_neg (Nat.lt_irrefl _), ih (seen ++ [c]) h4 fun z hz hz2 => ?_]
    · rw [List.length_append, List.length_singleton, List.length_cons, List.range'_succ]
    · rcases List.mem_append.1 hz2 with h5 | h5
      · exact h2 z (List.mem_cons_of_mem _ hz) h5
      · rw [List.mem_singleton.1 h5] at hz; exact h3 hz
theorem Cl.range {m : Nat} {es : List Sy.Ed} {cl : List Nat} (h : Cl m es cl) (hA : Acy m (sil m es)) : cl = List.range m := by
  have h1 : (natI cl).Nodup := by
    rw [List.nodup_iff_pairwise_ne, List.pairwise_iff_getElem]
    intro i j hi hj hij e
    simp only [natI, List.getElem_map] at e
    have hiL : i < cl.length := by simpa [natI] using hi
    have hjL : j < cl.length := by simpa [natI] using hj
    have e2 : cl[i] = cl[j] := Int.ofNat.inj e
    have hi' : i < m := by rw [← h.len]; exact hiL
    have hj' : j < m := by rw [← h.len]; exact hjL
    have g := (h.iff i j hi' hj').1 (by rw [List.getElem?_eq_getElem hiL, List.getElem?_eq_getElem hjL, e2])
    have := hA.acy i j hi' hj' g.1 g.2
    omega
  have h2 := canonG_nodup (natI cl) [] h1 fun _ _ h => by cases h
  have h3 : Sy.canonG [] (natI cl) = cl := h.form
  rw [h3] at h2
  rw [h2, List.range_eq_range']
  congr 1
  simp [natI, h.len]
theorem memI_range : ∀ (m c : Nat), memI (List.range m) c = if c < m then [(c : Int)] else []
  | 0, c => by simp [memI]
  | m + 1, c => by
    rw [List.range_succ, memI_snoc, memI_range m c, List.length_range]
    by_cases e : c = m
    · subst e; simp
    · rw [if_neg e]
      by_cases h : c < m
      · rw [if_pos h, if_pos (by omega)]
      · rw [if_neg h, if_neg (by omega)]
theorem natI_get {l : List Nat} {i x : Nat} (h : l[i]? = some x) : (natI l)[i]? = some (x : Int) := by simp [natI, h]
theorem flat_range {m : Nat} {od : List Nat} (h : ∀ x ∈ od, x < m) : od.flatMap (memI (List.range m)) = cast od := by
  induction od with
  | nil => rfl
  | cons a r ih =>
    rw [List.flatMap_cons, memI_range, if_pos (h a List.mem_cons_self), ih fun x hx => h x (List.mem_cons_of_mem _ hx)]
    rfl
theorem cla_range {m : Nat} {z : Int} (h0 : 0 ≤ z) (h1 : z < m) : cla (List.range m) z = z := by
  obtain ⟨p, rfl⟩ : ∃ p : Nat, z = (p : Int) := ⟨z.toNat, by omega⟩
  exact cla_at (by rw [List.getElem?_range (by omega)])
theorem btw_range {m : Nat} {k s : Int} {L : List Sy.Ed} (hr : Sy.right m k s L = true) (hk : ∀ e ∈ L, ¬ (e.2.1 = 0 ∧ e.1 = e.2.2)) : btw (List.range m) L = L := by
  have hp := (right_parts hr).2.2.2.2.2
  have h1 : L.filter (keep (List.range m)) = L := List.filter_eq_self.2 fun e he => by
    have h2 := hp e he
    unfold keep
    rw [cla_range h2.1 h2.2.1, cla_range h2.2.2.1 h2.2.2.2.1]
    have h3 := hk e he
    simp only [Bool.not_eq_true', Bool.and_eq_false_iff, decide_eq_false_iff_not]
    by_cases e0 : e.2.1 = 0
    · exact .inr fun e1 => h3 ⟨e0, e1⟩
    · exact .inl e0
  unfold btw
  rw [h1]
  refine (List.map_congr_left fun e he => ?_).trans (List.map_id L)
  have h2 := hp e he
  unfold Ts.onto
  rw [cla_range h2.1 h2.2.1, cla_range h2.2.2.1 h2.2.2.2.1]
  rfl
theorem tog_range (m : Nat) : tog (List.range m) = m := by
  have h1 : (natI (List.range m)).Nodup := by
    unfold natI
    exact List.pairwise_map.2 (List.nodup_range.imp fun h e => h (Int.ofNat.inj e))
  have hl : (natI (List.range m)).length = m := by simp [natI]
  have h2 : Sy.canon (natI (List.range m)) = List.range' 0 m := by
    have h3 := canonG_nodup (natI (List.range m)) [] h1 fun _ _ h => by cases h
    rw [hl] at h3
    exact h3
  have hle := tog_le (List.range m)
  rw [List.length_range] at hle
  refine Nat.le_antisymm hle ?_
  rcases Nat.eq_zero_or_pos m with h0 | h0
  · rw [h0]; exact Nat.zero_le _
  · have h4 : (natI (List.range m))[m - 1]? = some ((m - 1 : Nat) : Int) := natI_get (by rw [List.getElem?_range (by omega)])
    have h5 : (Sy.canon (natI (List.range m)))[m - 1]? = some (m - 1) := by rw [h2, List.getElem?_range' (by omega)]; simp
    rw [Sy.canon_map, List.getElem?_map, h4] at h5
    have h6 : Sy.place ((m - 1 : Nat) : Int) (Sy.seenG [] (natI (List.range m))) = m - 1 := Option.some.inj h5
    have h7 := Sy.place_lt.2 (Sy.seenG_mem (natI (List.range m)) [] _ (List.mem_of_getElem? h4))
    rw [tog_eq]
    omega
theorem right_nf {m : Nat} {k s : Int} {L : List Sy.Ed} (hr : Sy.right m k s L = true) : Sy.right m k s (Sy.nf L) = true := by
  unfold Sy.right at hr ⊢
  simp only [Bool.and_eq_true, decide_eq_true_eq, List.all_eq_true] at hr ⊢
  obtain ⟨⟨⟨h1, h2, h3, h4, h5⟩, h6⟩, h7⟩ := hr
  have h8 := Sy.nf_len L
  exact ⟨⟨⟨h1, h2, h3, h4, by omega⟩, h6⟩, fun e he => h7 e ((Sy.nf_mem _ _).1 he)⟩
end Go.Proofs.YtplofbabfkkimaaDoor.Ts
/- Contract of the law's alive of chapter 11: first calls whose answers the document fixes. -/
namespace Go.Proofs.YtplofbabfkkimaaDoor.Ts
open Go.RowKit Go.Maps
attribute [local go_sem ↓] Go.wp_at_zero Go.wp_at_succ
def es4 : List Sy.Ed := [(0, 0, 1), (1, 0, 0), (1, 1, 2), (2, 0, 3)]
theorem es4_right : Sy.right ((4 : Nat) : Int) 2 0 es4 = true := by decide
theorem es4_sil : sil 4 es4 0 = [1] ∧ sil 4 es4 1 = [0] ∧ sil 4 es4 2 = [3] ∧ sil 4 es4 3 = [] := by decide
theorem cl4 {cl : List Nat} (h : Cl 4 es4 cl) : cl = [0, 0, 1, 2] := by
  obtain ⟨s0, s1, s2, s3⟩ := es4_sil
  obtain ⟨hl, hf, hi⟩ := h
  obtain ⟨a, b, c, d, rfl⟩ : ∃ a b c d, cl = [a, b, c, d] := by
    match cl, hl with
    | [a, b, c, d], _ => exact ⟨a, b, c, d, rfl⟩
  have h01 := (hi 0 1 (by omega) (by omega)).2 ⟨Rt.one (by rw [s0]; simp), Rt.one (by rw [s1]; simp)⟩
  have h20 : c ≠ a := fun e => by
    have h2 := ((hi 2 0 (by omega) (by omega)).1 (by simp [e])).1
    have h3 := h2.stay (P := fun v => v = 2 ∨ v = 3) (fun v hv t ht => by
      rcases hv with rfl | rfl
      · rw [s2] at ht; exact .inr (by simpa using ht)
      · rw [s3] at ht; cases ht) (.inl rfl)
    omega
  have h30 : d ≠ a := fun e => by
    have h2 := ((hi 3 0 (by omega) (by omega)).1 (by simp [e])).1
    have h3 := h2.stay (P := fun v => v = 3) (fun v hv t ht => by
      subst hv
      rw [s3] at ht; cases ht) rfl
    omega
  have h32 : d ≠ c := fun e => by
    have h2 := ((hi 3 2 (by omega) (by omega)).1 (by simp [e])).1
    have h3 := h2.stay (P := fun v => v = 3) (fun v hv t ht => by
      subst hv
      rw [s3] at ht; cases ht) rfl
    omega
  have hab : a = b := by simpa using h01
  subst hab
  have e1 : ¬ (a : Int) = c := fun e => h20 (by omega)
  have e2 : ¬ (a : Int) = d := fun e => h30 (by omega)
  have e3 : ¬ (c : Int) = d := fun e => h32 (by omega)
  simp [Sy.canon, Sy.canonG, natI, Sy.place, e1, e2, e3] at hf
  simp
  omega
def out4 : Nat → List Nat := sil (tog [0, 0, 1, 2]) (btw [0, 0, 1, 2] es4)
theorem tog4 : tog [0, 0, 1, 2] = 3 := by decide
theorem out4_at : out4 0 = [] ∧ out4 1 = [2] ∧ out4 2 = [] := by decide
theorem od4 {od : List Nat} (h : Grd (tog [0, 0, 1, 2]) out4 od) (hm : ∀ x, ¬ Rd (tog [0, 0, 1, 2]) out4 od x) : od.flatMap (memI [0, 0, 1, 2]) = [0, 1, 3, 2] := by
  obtain ⟨o0, o1, o2⟩ := out4_at
  rw [tog4] at h hm
  have hG : Grd 3 out4 [0, 2, 1] := by
    have g1 : Grd 3 out4 [0] := Grd.nil.snoc ⟨by omega, by simp, by rw [o0]; simp⟩ fun x hx => by omega
    have g2 : Grd 3 out4 [0, 2] := g1.snoc ⟨by omega, by simp, by rw [o2]; simp⟩ fun x hx hr => by
      obtain ⟨_, r2, r3⟩ := hr
      have h1 : x = 1 := by
        have : x ≠ 0 := fun e => r2 (by simp [e])
        omega
      subst h1
      rw [o1] at r3
      simp at r3
    exact g2.snoc ⟨by omega, by simp, by rw [o1]; simp⟩ fun x hx hr => by
      obtain ⟨_, r2, _⟩ := hr
      have h1 : x = 0 := by omega
      exact r2 (by simp [h1])
  have e := h.same hm hG fun x hr => by
    obtain ⟨r1, r2, _⟩ := hr
    have : x = 0 ∨ x = 1 ∨ x = 2 := by omega
    rcases this with e | e | e <;> exact r2 (by simp [e])
  rw [e]
  decide
theorem es4_has (w : World) : BEdges.Has (w.alloc (.cells #[.int .i64 0, .int .i64 0, .int .i64 1, .int .i64 1, .int .i64 0, .int .i64 0, .int .i64 1, .int .i64 1, .int .i64 2, .int .i64 2, .int .i64 0, .int .i64 3] 36)) (.slice (some ⟨w.heap.size, 0, none⟩) 4 4) es4 := by
  refine ⟨some ⟨w.heap.size, 0, none⟩, 4, rfl, fun j u hj => ⟨_, rfl, ?_⟩⟩
  rw [addz]
  refine cell0_of (heap_alloc_new w _) ?_
  rw [← Array.getElem?_toList]
  exact hj
theorem own_cell {w : World} {B : Nat} {v : Value} {zs : List Int} {j : Nat} {z : Int} (h : OwnI w B v zs) (hz : zs[j]? = some z) : ∃ g cap, v = .slice (some ⟨g, 0, none⟩) zs.length cap ∧ w.cell? ⟨g, j, none⟩ = some (.int .i64 z) := by
  obtain ⟨g, off, cap, e, _, hc, _⟩ := que_cell (Que.of_own h) hz
  have h0 := h.at0 _ _ _ _ e
  subst h0
  rw [Nat.zero_add] at hc
  exact ⟨g, cap, e, hc⟩
def PAl (w : World) : Prop := ∀ W, Below w.heap.size w W → Calls Tryd.prog 5 #[] W fun r w' => r = .returned (.bool true) ∧ Below W.heap.size W w'
set_option maxRecDepth 100000 in
set_option maxHeartbeats 4000000 in
theorem pAl (hS : SortOk 1000000) (a : Addr) (w : World) (hA0 : Sent w 0 a) : PAl w := fun W hb => by
  have hA := hA0.below hb
  clear hA0 hb
  obtain ⟨w1, hw1⟩ : ∃ w1, w1 = W.alloc (.cells #[.int .i64 0, .int .i64 0, .int .i64 1, .int .i64 1, .int .i64 0, .int .i64 0, .int .i64 1, .int .i64 1, .int .i64 2, .int .i64 2, .int .i64 0, .int .i64 3] 36) := ⟨_, rfl⟩
  have hb1 : Below W.heap.size W w1 := by rw [hw1]; exact (Below.refl _ _).alloc (Nat.le_refl _) _
  have hv := es4_has W
  rw [← hw1] at hv
  obtain ⟨w2, hw2⟩ : ∃ w2, w2 = w1.alloc (.cells #[.int .i64 4, .int .i64 2, .int .i64 0, .slice (some ⟨W.heap.size, 0, none⟩) 4 4] 24) := ⟨_, rfl⟩
  have hb2 : Below w1.heap.size w1 w2 := by rw [hw2]; exact (Below.refl _ _).alloc (Nat.le_refl _) _
  have hg2 : w2.heap[w1.heap.size]? = some (.cells #[.int .i64 4, .int .i64 2, .int .i64 0, .slice (some ⟨W.heap.size, 0, none⟩) 4 4] 24 (0, 0)) := by rw [hw2]; exact heap_alloc_new w1 _
  have hbW := hb1.trans (hb2.mono hb1.size)
  have hC := cycles_ok hS 4 2 0 (.slice (some ⟨W.heap.size, 0, none⟩) 4 4) es4 a w2 (hA.below hbW) (hv.below hb2) (by decide) (by decide) es4_right
  unfold sysV at hC
  have hsz : w1.heap.size = W.heap.size + 1 := by rw [hw1]; simp
  have H1 : Hid _ := And.intro hw2 (And.intro hw1 (And.intro hg2 (And.intro hC (And.intro hbW (And.intro hA (hv.below hb2))))))
  obtain ⟨x0, x1, x2, x3⟩ := four_cells hg2
  clear hw1 hb1 hv hw2 hb2 hg2 hbW hC hA
  go_enter Tryd.func5, Tryd.ntmps5
  go_upto_region 2 with fail
  rw [← H1.out.2.1, ← H1.out.1]
  rw [hsz] at x0 x1 x2 x3
  go_wp2_with fail
  refine Calls.mono H1.out.2.2.2.1 ?_
  rintro r w3 ⟨u3, cl, rfl, hCl, hO3, hb3⟩
  obtain rfl := cl4 hCl
  obtain ⟨g3, c3, hu3, d3⟩ := own_cell (j := 3) (z := 2) hO3 rfl
  have hu3' : u3 = .slice (some ⟨g3, 0, none⟩) 4 c3 := hu3
  clear hu3
  subst hu3'
  have hbW3 := H1.out.2.2.2.2.1.trans (hb3.mono H1.out.2.2.2.2.1.size)
  have hOr := order_ok hS 4 2 0 (.slice (some ⟨W.heap.size, 0, none⟩) 4 4) es4 a w3 (H1.out.2.2.2.2.2.1.below hbW3) (H1.out.2.2.2.2.2.2.below hb3) (by decide) (by decide) es4_right
  unfold sysV at hOr
  have hg3 := (hb3.block _ (t_lt H1.out.2.2.1)).trans H1.out.2.2.1
  rw [hsz] at hg3
  have H3 : Hid _ := And.intro hOr hbW3
  clear x0 x1 x2 x3 hO3 hb3 hbW3 hOr hCl
  obtain ⟨x0, x1, x2, x3⟩ := four_cells hg3
  clear hg3
  go_wp2_with fail
  refine Calls.mono H3.out.1 ?_
  rintro r w4 ⟨u4, cl, od, rfl, hCl, hGr, hNo, hO4, hb4⟩
  obtain rfl := cl4 hCl
  rw [od4 hGr hNo] at hO4
  obtain ⟨g4, c4, hu4, d4⟩ := own_cell (j := 2) (z := 3) hO4 rfl
  have hu4' : u4 = .slice (some ⟨g4, 0, none⟩) 4 c4 := hu4
  clear hu4
  subst hu4'
  have d3' := cell_up d3 hb4
  have H4 : Hid _ := H3.out.2.trans (hb4.mono H3.out.2.size)
  clear hO4 hb4 x0 x1 x2 x3 hCl hGr hNo d3
  go_wp2_with fail
  go_ret
  exact ⟨rfl, H4.out⟩
end Go.Proofs.YtplofbabfkkimaaDoor.Ts
/- CyclesEdges: plain facts, and the ways out at once. -/
namespace Go.Proofs.YtplofbabfkkimaaDoor.Ts
open Go.RowKit Go.Maps
attribute [local go_sem ↓] Go.wp_at_zero Go.wp_at_succ
/-- A list of bools by a function. -/
def bl (M : Nat) (u : Nat → Bool) : List Value := (List.range M).map fun p => .bool (u p)
theorem bl_at {M : Nat} (u : Nat → Bool) {p : Nat} (h : p < M) : (bl M u)[p]? = some (.bool (u p)) := by simp [bl, h]
theorem bl_len (M : Nat) (u : Nat → Bool) : (bl M u).length = M := by simp [bl]
theorem bl_set (M : Nat) (u : Nat → Bool) (p : Nat) (x : Bool) : (bl M u).set p (.bool x) = bl M fun j => if j = p then x else u j := by
  apply List.ext_getElem?
  intro j
  by_cases hj : j < M
  · by_cases e : p = j
    · subst e
      rw [List.getElem?_set_self (by rw [bl_len]; exact hj), bl_at _ hj, if_pos rfl]
    · rw [List.getElem?_set_ne e, bl_at _ hj, bl_at _ hj, if_neg fun e2 => e e2.symm]
  · rw [List.getElem?_eq_none (by rw [List.length_set, bl_len]; omega), List.getElem?_eq_none (by rw [bl_len]; omega)]
theorem bl_congr {M : Nat} {u v : Nat → Bool} (h : ∀ p, p < M → u p = v p) : bl M u = bl M v := List.map_congr_left fun p hp => by rw [h p (List.mem_range.1 hp)]
theorem bl_false (M : Nat) : List.replicate M (Value.bool false) = bl M fun _ => false := by
  apply List.ext_getElem?
  intro j
  by_cases hj : j < M
  · rw [bl_at _ hj, List.getElem?_replicate, if_pos hj]
  · rw [List.getElem?_eq_none (by simp; omega), List.getElem?_eq_none (by rw [bl_len]; omega)]
/-- Which edges of the collapsed system these edges have met. -/
def uB (E : List Sy.Ed) (cl : List Nat) (xs : List Sy.Ed) (p : Nat) : Bool := xs.any fun x => decide (E[p]? = some (Ts.onto cl x))
/-- The same, while one more is looked for. -/
def vB (E : List Sy.Ed) (cl : List Nat) (xs : List Sy.Ed) (y : Sy.Ed) (j p : Nat) : Bool := uB E cl xs p || (decide (p < j) && decide (E[p]? = some y))
def fd (E : List Sy.Ed) (y : Sy.Ed) (j : Nat) : Bool := (List.range j).any fun p => decide (E[p]? = some y)
theorem fd_succ (E : List Sy.Ed) (y : Sy.Ed) (j : Nat) : fd E y (j + 1) = (fd E y j || decide (E[j]? = some y)) := by
  unfold fd
  rw [List.range_succ, List.any_append]
  simp
theorem fd_all {E : List Sy.Ed} {y : Sy.Ed} : fd E y E.length = decide (y ∈ E) := by
  unfold fd
  rw [Bool.eq_iff_iff, List.any_eq_true, decide_eq_true_eq]
  constructor
  · rintro ⟨p, _, h⟩
    exact List.mem_of_getElem? (by simpa using h)
  · intro h
    obtain ⟨p, hp⟩ := List.mem_iff_getElem?.1 h
    exact ⟨p, List.mem_range.2 (List.getElem?_eq_some_iff.1 hp).1, by simpa using hp⟩
theorem uB_next {E : List Sy.Ed} {cl : List Nat} {es : List Sy.Ed} {i : Nat} {e : Sy.Ed} (h : es[i]? = some e) (p : Nat) (hp : p < E.length) : vB E cl (es.take i) (Ts.onto cl e) E.length p = uB E cl (es.take (i + 1)) p := by
  obtain ⟨h1, h2⟩ := List.getElem?_eq_some_iff.1 h
  unfold vB uB
  rw [List.take_succ_eq_append_getElem h1, h2, List.any_append]
  simp [hp]
theorem vB_zero (E : List Sy.Ed) (cl : List Nat) (xs : List Sy.Ed) (y : Sy.Ed) (p : Nat) : vB E cl xs y 0 p = uB E cl xs p := by unfold vB; simp
theorem vB_hit {E : List Sy.Ed} {cl : List Nat} {xs : List Sy.Ed} {y : Sy.Ed} {j : Nat} (h : E[j]? = some y) (p : Nat) : (if p = j then true else vB E cl xs y j p) = vB E cl xs y (j + 1) p := by
  unfold vB
  by_cases e : p = j
  · subst e; simp [h]
  · rw [if_neg e]
    have h1 : decide (p < j + 1) = decide (p < j) := by
      rw [Bool.eq_iff_iff, decide_eq_true_eq, decide_eq_true_eq]
      omega
    rw [h1]
theorem vB_miss {E : List Sy.Ed} {cl : List Nat} {xs : List Sy.Ed} {y : Sy.Ed} {j : Nat} (h : E[j]? ≠ some y) (p : Nat) : vB E cl xs y j p = vB E cl xs y (j + 1) p := by
  unfold vB
  by_cases e : p = j
  · subst e; simp [h]
  · have h1 : decide (p < j + 1) = decide (p < j) := by
      rw [Bool.eq_iff_iff, decide_eq_true_eq, decide_eq_true_eq]
      omega
    rw [h1]
/-- An edge is met just where it stays. -/
theorem met_keep {cl : List Nat} {es : List Sy.Ed} {e : Sy.Ed} (he : e ∈ es) : decide (Ts.onto cl e ∈ Sy.nf (btw cl es)) = keep cl e := by
  rw [Bool.eq_iff_iff, decide_eq_true_eq, Sy.nf_mem, btw_mem]
  constructor
  · rintro ⟨d, _, hk, hy⟩
    unfold Ts.onto at hy
    simp only [Prod.mk.injEq] at hy
    unfold keep at hk ⊢
    rw [hy.1, hy.2.1, hy.2.2]
    exact hk
  · intro hk
    exact ⟨e, he, hk, rfl⟩
theorem all_met {cl : List Nat} {es : List Sy.Ed} {p : Nat} (hp : p < (Sy.nf (btw cl es)).length) : uB (Sy.nf (btw cl es)) cl es p = true := by
  obtain ⟨d, hd, _, hy⟩ := btw_mem.1 ((Sy.nf_mem _ _).1 (List.getElem_mem hp))
  unfold uB
  rw [List.any_eq_true]
  exact ⟨d, hd, by rw [List.getElem?_eq_getElem hp, hy]; simp⟩
theorem bel12 {w W w8 : World} (hb : Below W.heap.size W w8) (h : Below w.heap.size w W) : Below w.heap.size w w8 := h.trans (hb.mono h.size)
set_option maxRecDepth 100000 in
set_option maxHeartbeats 4000000 in
theorem lawE_out (n k s : Int) (v : Value) (es : List Sy.Ed) (w : World) (hA : PAl w) (hv : HasE w v es) (hlen : 300 < es.length ∨ 60 < n) :
    Calls Tryd.prog 4 #[sysV n k s v] w fun r w' => r = .returned (.bool true) ∧ Below w.heap.size w w' := by
  obtain ⟨ao, cap, rfl, hcap, hH⟩ := hv
  obtain ⟨L, hL⟩ : ∃ L, L = es.length := ⟨_, rfl⟩
  rw [← hL] at hcap hlen ⊢
  have HA : Hid (PAl w) := hA
  have hb0 : ∀ o, Below w.heap.size w (w.alloc o) := fun o => (Below.refl _ _).alloc (Nat.le_refl _) _
  have HB : Hid (∀ o, Below w.heap.size w (w.alloc o)) := hb0
  unfold sysV
  clear hA hH hcap hb0 hL
  by_cases h1 : 60 < n
  · clear hlen
    go_enter Tryd.func4, Tryd.ntmps4
    go_wp2_with (go_at_call 5; refine Calls.mono (HA.out _ (HB.out _)) ?_; rintro r w1 ⟨rfl, hb1⟩; have hb2 := bel12 hb1 (HB.out _))
    go_ret
    exact ⟨rfl, hb2⟩
  · have q1 : (300 : Int) < (L : Int) := by omega
    clear hlen
    go_enter Tryd.func4, Tryd.ntmps4
    go_wp2_with (go_at_call 5; refine Calls.mono (HA.out _ (HB.out _)) ?_; rintro r w1 ⟨rfl, hb1⟩; have hb2 := bel12 hb1 (HB.out _))
    go_ret
    exact ⟨rfl, hb2⟩
set_option maxRecDepth 100000 in
set_option maxHeartbeats 4000000 in
theorem lawE_bad (hS : SortOk 1000000) (n k s : Int) (v : Value) (es : List Sy.Ed) (a : Addr) (w : World) (hA : PAl w) (hE : Sent w 0 a) (hv : HasE w v es) (hlen : es.length ≤ 300) (hn : n ≤ 60) (hq : Sy.right n k s es = false) :
    Calls Tryd.prog 4 #[sysV n k s v] w fun r w' => r = .returned (.bool true) ∧ Below w.heap.size w w' := by
  have hN := fun W (hb : Below w.heap.size w W) => collapse_bad hS n k s v es a W (hE.below hb) (by obtain ⟨_, _, _, _, h⟩ := hv; exact h.below hb) (by omega) (by omega) hq
  obtain ⟨ao, cap, rfl, hcap, hH⟩ := hv
  obtain ⟨L, hL⟩ : ∃ L, L = es.length := ⟨_, rfl⟩
  rw [← hL] at hcap hlen hN ⊢
  have HA : Hid _ := And.intro hA hN
  have hb0 : ∀ o, Below w.heap.size w (w.alloc o) := fun o => (Below.refl _ _).alloc (Nat.le_refl _) _
  have HB : Hid (∀ o, Below w.heap.size w (w.alloc o)) := hb0
  unfold sysV at HA ⊢
  have q1 : ¬ (300 : Int) < (L : Int) := by omega
  have q2 : ¬ (60 : Int) < n := by omega
  clear hA hH hcap hb0 hL hN hE hq
  go_enter Tryd.func4, Tryd.ntmps4
  go_wp2_with (first
    | (go_at_call 6; refine Calls.mono (HA.out.2 _ (HB.out _)) ?_; rintro r w1 ⟨b, rfl, hC, hb1⟩; have H1 : Hid _ := bel12 hb1 (HB.out _); clear hb1 hC)
    | (go_at_call 5; refine Calls.mono (HA.out.1 _ (H1.out.alloc (by have := H1.out.size; omega) _)) ?_; rintro r w2 ⟨rfl, hb2⟩; have H2 : Hid _ := bel12 hb2 (H1.out.alloc (by have := H1.out.size; omega) _); clear hb2))
  go_ret
  exact ⟨rfl, H2.out⟩
end Go.Proofs.YtplofbabfkkimaaDoor.Ts
