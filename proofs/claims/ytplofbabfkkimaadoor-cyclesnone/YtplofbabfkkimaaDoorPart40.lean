/- Texts of this claim, joined: TsAgain, TsLawN0, TsLawN. -/
import Derived.Test.YtplofbabfkkimaaDoorPart13
import Derived.Deep.DeepCutAuto
import Derived.Test.YtplofbabfkkimaaDoorPart18
import Derived.Deep.RegionHeld3
/- tauscc: Collapse and Order of a collapsed system. -/
namespace Go.Proofs.YtplofbabfkkimaaDoor.Ts
open Go.RowKit Go.Maps
theorem btw_free {cl : List Nat} {es : List Sy.Ed} : ∀ e ∈ Sy.nf (btw cl es), ¬ (e.2.1 = 0 ∧ e.1 = e.2.2) := fun e he h => by
  obtain ⟨d, _, hk, rfl⟩ := btw_mem.1 ((Sy.nf_mem _ _).1 he)
  unfold Ts.onto at h
  simp only at h
  unfold keep at hk
  rw [h.1, h.2] at hk
  simp at hk
/-- What is known of a collapsed system. -/
structure Again (m : Nat) (k s : Int) (E : List Sy.Ed) : Prop where
  right : Sy.right m k s E = true
  nf : Sy.nf E = E
  acy : Acy m (sil m E)
  free : ∀ e ∈ E, ¬ (e.2.1 = 0 ∧ e.1 = e.2.2)
theorem Cl.again {n : Nat} {k s : Int} {es : List Sy.Ed} {cl : List Nat} (h : Cl n es cl) (hr : Sy.right n k s es = true) : Again (tog cl) k (sta n cl s) (Sy.nf (btw cl es)) :=
  ⟨right_nf (small_right h hr), Sy.nf_idem _, (h.acy hr).nf, btw_free⟩
theorem Again.cl {m : Nat} {k s : Int} {E : List Sy.Ed} {cl : List Nat} (h : Again m k s E) (hc : Cl m E cl) : cl = List.range m := hc.range h.acy
theorem Again.sta {m : Nat} {k s : Int} {E : List Sy.Ed} (h : Again m k s E) : sta m (List.range m) s = s := by
  obtain ⟨_, _, _, h0, h1, _⟩ := right_parts h.right
  unfold Ts.sta
  by_cases hm : 0 < m
  · rw [if_pos hm]
    have h2 := h1 (by omega)
    exact cla_range h2.1 h2.2
  · rw [if_neg hm]
    exact (h0 (by omega)).symm
theorem again_collapse (hS : SortOk 1000000) {m : Nat} {k s : Int} {E : List Sy.Ed} (h : Again m k s E) (v : Value) (a : Addr) (w : World) (hA : Sent w 0 a) (hv : BEdges.Has w v E) :
    Calls Tryd.prog 6 #[sysV m k s v] w fun r w' => ∃ (ue u : Value), r = .returned (.tuple #[sysV m k s ue, u, .nilIface]) ∧ BEdges.Own w' w.heap.size ue E ∧ OwnI w' w.heap.size u (natI (List.range m)) ∧ Below w.heap.size w w' := by
  have hl := (right_parts h.right).2.2.1
  refine (collapse_ok hS m k s v E a w hA hv (by omega) (by omega) h.right).mono fun r w' hh => ?_
  obtain ⟨ue, u, cl, rfl, hc, h1, h2, h3⟩ := hh
  obtain rfl := h.cl hc
  rw [btw_range h.right h.free, h.nf] at h1
  refine ⟨ue, u, ?_, h1, h2, h3⟩
  rw [tog_range, h.sta]
/-- An order of a system without a cycle. -/
structure Od (m : Nat) (E : List Sy.Ed) (od : List Nat) : Prop where
  len : od.length = m
  nodup : od.Nodup
  lt : ∀ x ∈ od, x < m
  all : ∀ x, x < m → x ∈ od
  ends : ∀ (j x y : Nat), od[j]? = some x → y ∈ sil m E x → y ∈ od.take j
theorem again_order (hS : SortOk 1000000) {m : Nat} {k s : Int} {E : List Sy.Ed} (h : Again m k s E) (v : Value) (a : Addr) (w : World) (hA : Sent w 0 a) (hv : BEdges.Has w v E) :
    Calls Tryd.prog 9 #[sysV m k s v] w fun r w' => ∃ (u : Value) (od : List Nat), r = .returned (.tuple #[u, .nilIface]) ∧ Od m E od ∧ OwnI w' w.heap.size u (cast od) ∧ Below w.heap.size w w' := by
  have hl := (right_parts h.right).2.2.1
  refine (order_ok hS m k s v E a w hA hv (by omega) (by omega) h.right).mono fun r w' hh => ?_
  obtain ⟨u, cl, od, rfl, hc, h1, h2, h3, h4⟩ := hh
  obtain rfl := h.cl hc
  rw [tog_range, btw_range h.right h.free] at h1 h2
  rw [flat_range h1.lt] at h3
  have hw := h1.all h.acy h2
  exact ⟨u, od, rfl, ⟨hw.1, h1.nodup, h1.lt, hw.2, fun j x y hj hy => (h1.next hj).2.2 y hy⟩, h3, h4⟩
end Go.Proofs.YtplofbabfkkimaaDoor.Ts
/- CyclesNone: plain facts, and the ways out at once. -/
namespace Go.Proofs.YtplofbabfkkimaaDoor.Ts
open Go.RowKit Go.Maps
attribute [local go_sem ↓] Go.wp_at_zero Go.wp_at_succ
/-- A list of numbers by a function. -/
def il (M : Nat) (u : Nat → Int) : List Value := (List.range M).map fun p => .int .i64 (u p)
theorem il_at {M : Nat} (u : Nat → Int) {p : Nat} (h : p < M) : (il M u)[p]? = some (.int .i64 (u p)) := by simp [il, h]
theorem il_len (M : Nat) (u : Nat → Int) : (il M u).length = M := by simp [il]
theorem il_set (M : Nat) (u : Nat → Int) (p : Nat) (x : Int) : (il M u).set p (.int .i64 x) = il M fun j => if j = p then x else u j := by
  apply List.ext_getElem?
  intro j
  by_cases hj : j < M
  · by_cases e : p = j
    · subst e
      rw [List.getElem?_set_self (by rw [il_len]; exact hj), il_at _ hj, if_pos rfl]
    · rw [List.getElem?_set_ne e, il_at _ hj, il_at _ hj, if_neg fun e2 => e e2.symm]
  · rw [List.getElem?_eq_none (by rw [List.length_set, il_len]; omega), List.getElem?_eq_none (by rw [il_len]; omega)]
theorem il_congr {M : Nat} {u v : Nat → Int} (h : ∀ p, p < M → u p = v p) : il M u = il M v := List.map_congr_left fun p hp => by rw [h p (List.mem_range.1 hp)]
theorem il_zero (M : Nat) : List.replicate M (Value.int .i64 0) = il M fun _ => 0 := by
  apply List.ext_getElem?
  intro j
  by_cases hj : j < M
  · rw [il_at _ hj, List.getElem?_replicate, if_pos hj]
  · rw [List.getElem?_eq_none (by simp; omega), List.getElem?_eq_none (by rw [il_len]; omega)]
/-- The places of the first so many, 0 of the others. -/
def pv (od : List Nat) (i x : Nat) : Int := if x ∈ od.take i then (od.idxOf x : Int) + 1 else 0
theorem pv_zero (od : List Nat) (x : Nat) : pv od 0 x = 0 := by unfold pv; simp
theorem pv_new {od : List Nat} (hn : od.Nodup) {i t : Nat} (h : od[i]? = some t) : pv od i t = 0 := by
  obtain ⟨h1, h2⟩ := List.getElem?_eq_some_iff.1 h
  unfold pv
  rw [if_neg fun hm => ?_]
  obtain ⟨j, hj, e⟩ := List.mem_iff_getElem.1 hm
  rw [List.length_take] at hj
  rw [List.getElem_take] at e
  have h3 := hn.idxOf_getElem j (by omega)
  have h4 := hn.idxOf_getElem i h1
  rw [e] at h3
  rw [h2] at h4
  omega
theorem pv_next {od : List Nat} (hn : od.Nodup) {i t : Nat} (h : od[i]? = some t) (p : Nat) : (if p = t then (i : Int) + 1 else pv od i p) = pv od (i + 1) p := by
  obtain ⟨h1, h2⟩ := List.getElem?_eq_some_iff.1 h
  have h3 : od.take (i + 1) = od.take i ++ [t] := by rw [List.take_succ_eq_append_getElem h1, h2]
  unfold pv
  rw [h3]
  by_cases e : p = t
  · subst e
    have h4 := hn.idxOf_getElem i h1
    rw [h2] at h4
    rw [if_pos rfl, if_pos (by simp), h4]
  · rw [if_neg e]
    simp [e]
theorem pv_all {m : Nat} {E : List Sy.Ed} {od : List Nat} (h : Od m E od) {x : Nat} (hx : x < m) : pv od m x = (od.idxOf x : Int) + 1 := by
  unfold pv
  rw [← h.len, List.take_length, if_pos (h.all x hx)]
/-- What silent steps lead to stands ahead. -/
theorem pv_lt {m : Nat} {k s : Int} {E : List Sy.Ed} {od : List Nat} (h : Od m E od) (hr : Sy.right m k s E = true) {f t : Nat} (hf : f < m) (ht : t < m) (he : ((f : Int), (0 : Int), (t : Int)) ∈ E) : pv od m t < pv od m f := by
  rw [pv_all h ht, pv_all h hf]
  have h1 := h.all f hf
  have hl := List.idxOf_lt_length_iff.2 h1
  have h2 := h.ends (od.idxOf f) f t (by rw [List.getElem?_eq_getElem hl, List.getElem_idxOf hl]) ((sil_mem hr hf).2 he)
  obtain ⟨j, hj, e⟩ := List.mem_iff_getElem.1 h2
  rw [List.length_take] at hj
  rw [List.getElem_take] at e
  have h3 := h.nodup.idxOf_getElem j (by omega)
  rw [e] at h3
  omega
theorem bel13 {w W w8 : World} (hb : Below W.heap.size W w8) (h : Below w.heap.size w W) : Below w.heap.size w w8 := h.trans (hb.mono h.size)
set_option maxRecDepth 100000 in
set_option maxHeartbeats 4000000 in
theorem lawN_out (n k s : Int) (v : Value) (es : List Sy.Ed) (w : World) (hA : PAl w) (hv : HasE w v es) (hlen : 600 < es.length ∨ 100 < n) :
    Calls Tryd.prog 3 #[sysV n k s v] w fun r w' => r = .returned (.bool true) ∧ Below w.heap.size w w' := by
  obtain ⟨ao, cap, rfl, hcap, hH⟩ := hv
  obtain ⟨L, hL⟩ : ∃ L, L = es.length := ⟨_, rfl⟩
  rw [← hL] at hcap hlen ⊢
  have HA : Hid (PAl w) := hA
  have hb0 : ∀ o, Below w.heap.size w (w.alloc o) := fun o => (Below.refl _ _).alloc (Nat.le_refl _) _
  have HB : Hid (∀ o, Below w.heap.size w (w.alloc o)) := hb0
  unfold sysV
  clear hA hH hcap hb0 hL
  by_cases h1 : 100 < n
  · clear hlen
    go_enter Tryd.func3, Tryd.ntmps3
    go_wp2_with (go_at_call 5; refine Calls.mono (HA.out _ (HB.out _)) ?_; rintro r w1 ⟨rfl, hb1⟩; have hb2 := bel13 hb1 (HB.out _))
    go_ret
    exact ⟨rfl, hb2⟩
  · have q1 : (600 : Int) < (L : Int) := by omega
    clear hlen
    go_enter Tryd.func3, Tryd.ntmps3
    go_wp2_with (go_at_call 5; refine Calls.mono (HA.out _ (HB.out _)) ?_; rintro r w1 ⟨rfl, hb1⟩; have hb2 := bel13 hb1 (HB.out _))
    go_ret
    exact ⟨rfl, hb2⟩
theorem isSys (T : TypeId) (u : Value) (ls : List ByteArray) (a : Addr) (w : World) (hE : Sent w 0 a) (hC : Chain w 0 0 a ls (.iface T u)) :
    Calls Tryd.prog 7 #[.iface T u, .iface 150 (.pointer (some a))] w fun r w' => r = .returned (.bool true) ∧ w' = w := by
  obtain ⟨_, ca, ta, hba⟩ := hE
  exact (is_chain (.iface T u) ls 0 0 a a ca ca ta ta w hC hba hba).mono fun r w' h => ⟨by rw [h.1]; simp, h.2⟩
set_option maxRecDepth 100000 in
set_option maxHeartbeats 4000000 in
theorem lawN_bad (hS : SortOk 1000000) (n k s : Int) (v : Value) (es : List Sy.Ed) (a : Addr) (w : World) (hA : PAl w) (hE : Sent w 0 a) (hv : HasE w v es) (hlen : es.length ≤ 600) (hn : n ≤ 100) (hq : Sy.right n k s es = false) :
    Calls Tryd.prog 3 #[sysV n k s v] w fun r w' => r = .returned (.bool true) ∧ Below w.heap.size w w' := by
  have hN := fun W (hb : Below w.heap.size w W) => collapse_bad hS n k s v es a W (hE.below hb) (by obtain ⟨_, _, _, _, h⟩ := hv; exact h.below hb) (by omega) (by omega) hq
  obtain ⟨ao, cap, rfl, hcap, hH⟩ := hv
  obtain ⟨L, hL⟩ : ∃ L, L = es.length := ⟨_, rfl⟩
  rw [← hL] at hcap hlen hN ⊢
  have HA : Hid _ := And.intro hA (And.intro hN hE)
  have hb0 : ∀ o, Below w.heap.size w (w.alloc o) := fun o => (Below.refl _ _).alloc (Nat.le_refl _) _
  have HB : Hid (∀ o, Below w.heap.size w (w.alloc o)) := hb0
  unfold sysV at HA ⊢
  have q1 : ¬ (600 : Int) < (L : Int) := by omega
  have q2 : ¬ (100 : Int) < n := by omega
  clear hA hH hcap hb0 hL hN hE hq
  go_enter Tryd.func3, Tryd.ntmps3
  go_wp2_with (first
    | (go_at_call 6; refine Calls.mono (HA.out.2.1 _ (HB.out _)) ?_; rintro r w1 ⟨b, rfl, hC, hb1⟩; have H1 : Hid _ := And.intro hC (bel13 hb1 (HB.out _)); clear hb1 hC)
    | (go_at_call 5; refine Calls.mono (HA.out.1 _ (H1.out.2.alloc (by have := H1.out.2.size; omega) _)) ?_; rintro r w2 ⟨rfl, hb2⟩; have hb3 := bel13 hb2 (H1.out.2.alloc (by have := H1.out.2.size; omega) _); have hG := (HA.out.2.2.below hb3).1; have H2 : Hid _ := And.intro (H1.out.1.below (((Below.refl _ _).alloc (Nat.le_refl _) _).trans (hb2.mono (by simp)))) hb3; clear hb2 hb3)
    | (go_at_call 7; refine Calls.mono (isSys _ _ _ a _ (HA.out.2.2.below H2.out.2) H2.out.1) ?_; rintro r w4 ⟨rfl, hw⟩; obtain rfl := hw.symm; clear hw))
  go_ret
  exact ⟨rfl, H2.out.2⟩
end Go.Proofs.YtplofbabfkkimaaDoor.Ts
/- CyclesNone as a call. -/
namespace Go.Proofs.YtplofbabfkkimaaDoor.Ts
open Go.RowKit Go.Maps
attribute [local go_sem ↓] Go.wp_at_zero Go.wp_at_succ
set_option linter.unusedSimpArgs false in
set_option maxRecDepth 100000 in
set_option maxHeartbeats 8000000 in
theorem lawN_in (hS : SortOk 1000000) (n : Nat) (k s : Int) (v : Value) (es : List Sy.Ed) (a : Addr) (w : World) (hA : PAl w) (hE : Sent w 0 a) (hv : HasE w v es) (hlen : es.length ≤ 600) (hn : n ≤ 100) (hq : Sy.right n k s es = true) :
    Calls Tryd.prog 3 #[sysV n k s v] w fun r w' => r = .returned (.bool true) ∧ Below w.heap.size w w' := by
  have hvs := hv
  obtain ⟨ao, cap, rfl, hcap, hH⟩ := hvs
  obtain ⟨L, hL⟩ : ∃ L, L = es.length := ⟨_, rfl⟩
  rw [← hL] at hcap hlen ⊢
  obtain ⟨w1, hw1⟩ : ∃ w1, w1 = w.alloc (.cells #[.int .i64 n, .int .i64 k, .int .i64 s, .slice ao L cap] 24) := ⟨_, rfl⟩
  have hb1 : Below w.heap.size w w1 := by rw [hw1]; exact (Below.refl _ _).alloc (Nat.le_refl _) _
  have hg1 : w1.heap[w.heap.size]? = some (.cells #[.int .i64 n, .int .i64 k, .int .i64 s, .slice ao L cap] 24 (0, 0)) := by rw [hw1]; exact heap_alloc_new w _
  have hC := collapse_ok hS n k s (.slice ao L cap) es a w1 (hE.below hb1) (by rw [hL]; exact hH.below hb1) (by omega) (by omega) hq
  unfold sysV at hC ⊢
  have HV : Hid _ := And.intro hE (And.intro hL (And.intro hA hq))
  have H1 : Hid _ := And.intro hw1 (And.intro hb1 (And.intro hg1 hC))
  obtain ⟨x0, x1, x2, x3⟩ := four_cells hg1
  have q1 : ¬ (600 : Int) < (L : Int) := by omega
  have q2 : ¬ (100 : Int) < (n : Int) := by omega
  clear hA hE hv hH hcap hL hw1 hb1 hg1 hq hC
  go_enter Tryd.func3, Tryd.ntmps3
  go_upto_region 1 with fail
  rw [← H1.out.1]
  go_wp2_with fail
  refine Calls.mono H1.out.2.2.2 ?_
  rintro r w2 ⟨ue, u, cl, rfl, hCl, hOe, hOc, hb2⟩
  obtain ⟨au, cu, hu⟩ := row_shape hOc
  obtain ⟨ae, ce, hue⟩ := row_shape hOe
  have hcn : (natI cl).length = n := by simp [natI, hCl.len]
  rw [hcn] at hu
  obtain ⟨E, hEE⟩ : ∃ E, E = Sy.nf (btw cl es) := ⟨_, rfl⟩
  have hAg := hCl.again HV.out.2.2.2
  rw [← hEE] at hAg hOe hue
  obtain ⟨M, hM⟩ : ∃ M, M = E.length := ⟨_, rfl⟩
  rw [← hM] at hue
  subst hu
  subst hue
  obtain ⟨tg, htg⟩ : ∃ t : Nat, t = tog cl := ⟨_, rfl⟩
  obtain ⟨st, hst⟩ : ∃ z, z = sta n cl s := ⟨_, rfl⟩
  rw [← htg, ← hst] at hAg ⊢
  have htn : tg ≤ 1000 := by have := (right_parts hAg.right).1.2; omega
  have hMl : M ≤ 10000 := by rw [hM]; exact (right_parts hAg.right).2.2.1
  have hg2 := (hb2.block _ (t_lt H1.out.2.2.1)).trans H1.out.2.2.1
  have b2 := bel13 hb2 H1.out.2.1
  obtain ⟨w3, hw3⟩ : ∃ w3, w3 = w2.alloc (.cells #[.int .i64 (tg : Int), .int .i64 k, .int .i64 st, .slice ae M ce] 24) := ⟨_, rfl⟩
  have hb3 : Below w2.heap.size w2 w3 := by rw [hw3]; exact (Below.refl _ _).alloc (Nat.le_refl _) _
  have hg3 : w3.heap[w2.heap.size]? = some (.cells #[.int .i64 (tg : Int), .int .i64 k, .int .i64 st, .slice ae M ce] 24 (0, 0)) := by rw [hw3]; exact heap_alloc_new w2 _
  have hg23 := (hb3.block _ (t_lt hg2)).trans hg2
  have b3 := bel13 hb3 b2
  have hE3 := edge_up4 hOe hb3
  have hC2 := again_collapse hS hAg (.slice ae M ce) a w3 (HV.out.1.below b3) hE3.has
  unfold sysV at hC2
  have H3 : Hid _ := And.intro hw3 (And.intro b3 (And.intro hg3 (And.intro hg23 (And.intro hE3 (And.intro hAg (And.intro hM hC2))))))
  clear hCl hOe hOc hb2 hM hcn x0 x1 x2 x3 hw3 hb3 b3 htg hst b2 hg2 hE3 hAg hC2 hEE
  obtain ⟨x0, x1, x2, x3⟩ := four_cells hg23
  obtain ⟨t0, t1, t2, t3⟩ := four_cells hg3
  clear hg3 hg23
  go_upto_region 4 with fail
  rw [← H3.out.1]
  go_wp2_with fail
  refine Calls.mono H3.out.2.2.2.2.2.2.2 ?_
  rintro r w4 ⟨ue2, u2, rfl, hOe2, hOd, hb4⟩
  obtain ⟨ad, cd, hd⟩ := row_shape hOd
  obtain ⟨ae2, ce2, hue2⟩ := row_shape hOe2
  rw [show (natI (List.range tg)).length = tg by simp [natI]] at hd
  rw [← H3.out.2.2.2.2.2.2.1] at hue2
  subst hd
  subst hue2
  obtain ⟨w5, hw5⟩ : ∃ w5, w5 = w4.alloc (.cells #[.int .i64 (tg : Int), .int .i64 k, .int .i64 st, .slice ae2 M ce2] 24) := ⟨_, rfl⟩
  have hb45 : Below w4.heap.size w4 w5 := by rw [hw5]; exact (Below.refl _ _).alloc (Nat.le_refl _) _
  have hg5 : w5.heap[w4.heap.size]? = some (.cells #[.int .i64 (tg : Int), .int .i64 k, .int .i64 st, .slice ae2 M ce2] 24 (0, 0)) := by rw [hw5]; exact heap_alloc_new w4 _
  have b35 := bel13 hb45 hb4
  have hgt5 := (b35.block _ (t_lt H3.out.2.2.1)).trans H3.out.2.2.1
  have hgs5 := (b35.block _ (t_lt H3.out.2.2.2.1)).trans H3.out.2.2.2.1
  have hSm := sameSystem_b (tg : Int) k st (.slice ae M ce) (.slice ae2 M ce2) E w5 (by have := H3.out.2.2.2.2.2.2.1; omega) (edge_up4 H3.out.2.2.2.2.1 b35).has (edge_up4 hOe2 hb45).has
  unfold sysV at hSm
  have H5 : Hid _ := And.intro hw5 (And.intro b35 (And.intro hgt5 (And.intro hgs5 hSm)))
  clear hOe2 hOd hb4 hw5 hb45 b35 hSm x0 x1 x2 x3 t0 t1 t2 t3
  obtain ⟨x0, x1, x2, x3⟩ := four_cells hgs5
  obtain ⟨t0, t1, t2, t3⟩ := four_cells hgt5
  obtain ⟨r0, r1, r2, r3⟩ := four_cells hg5
  clear hgs5 hgt5 hg5
  go_upto_region 7 with fail
  rw [← H5.out.1]
  go_wp2_with fail
  refine Calls.mono H5.out.2.2.2.2 ?_
  rintro r w6 ⟨rfl, hb6⟩
  have b36 := bel13 hb6 H5.out.2.1
  have hgt6 := (b36.block _ (t_lt H3.out.2.2.1)).trans H3.out.2.2.1
  have hgs6 := (b36.block _ (t_lt H3.out.2.2.2.1)).trans H3.out.2.2.2.1
  have b6 := bel13 b36 H3.out.2.1
  have hOr := again_order hS H3.out.2.2.2.2.2.1 (.slice ae M ce) a w6 (HV.out.1.below b6) (edge_up4 H3.out.2.2.2.2.1 b36).has
  unfold sysV at hOr
  have H6 : Hid _ := And.intro b36 (And.intro hgt6 (And.intro hgs6 (And.intro b6 hOr)))
  clear hb6 b36 b6 hOr x0 x1 x2 x3 t0 t1 t2 t3 r0 r1 r2 r3
  obtain ⟨x0, x1, x2, x3⟩ := four_cells hgs6
  obtain ⟨t0, t1, t2, t3⟩ := four_cells hgt6
  clear hgs6 hgt6
  go_wp2_with fail
  refine Calls.mono H6.out.2.2.2.2 ?_
  rintro r w7 ⟨uo, od, rfl, hOd, hOo, hb7⟩
  obtain ⟨ap, cp, hp⟩ := row_shape hOo
  rw [cast_length, hOd.len] at hp
  subst hp
  have b37 := bel13 hb7 H6.out.1
  have hgt7 := (b37.block _ (t_lt H3.out.2.2.1)).trans H3.out.2.2.1
  have hmk := makeI tg (by omega) w7
  have hA0 := arr_new 3 (.int .i64 0) rfl tg w7
  obtain ⟨w8, hw8⟩ : ∃ w8, w8 = w7.alloc (.cells (madeV (.int .i64 0) tg) 3) := ⟨_, rfl⟩
  rw [← hw8] at hmk hA0
  rw [il_zero] at hA0
  obtain ⟨gi, hgi⟩ : ∃ gi, gi = w7.heap.size := ⟨_, rfl⟩
  rw [← hgi] at hmk hA0
  have H7 : Hid _ := And.intro hOd (And.intro hOo (And.intro b37 (And.intro hgt7 (And.intro hA0 (bel13 hb7 H6.out.2.2.2.1)))))
  clear hOd hOo hb7 b37 hA0 hw8 hgi x0 x1 x2 x3 t0 t1 t2 t3
  obtain ⟨t0, t1, t2, t3⟩ := four_cells hgt7
  clear hgt7
  go_wp2_with fail
  go_loopg [12] tg (fun q s12 wx => ∃ i : Nat, q = tg - i ∧ i ≤ tg ∧ s12 = .int .i64 i ∧ Arr 3 w7 wx gi (il tg (pv od i)))
  case atStart => exact ⟨0, rfl, Nat.zero_le _, rfl, by have h9 := H7.out.2.2.2.2.1; rw [il_congr (v := pv od 0) (fun p _ => (pv_zero od p).symm)] at h9; exact h9⟩
  case round =>
    obtain ⟨i, rfl, hi, rfl, hA⟩ := hrel
    clear t0 t1 t2 t3
    have hgt8 := (hA.bl.block _ (t_lt H7.out.2.2.2.1)).trans H7.out.2.2.2.1
    obtain ⟨t0, t1, t2, t3⟩ := four_cells hgt8
    clear hgt8
    by_cases hlt : i < tg
    · obtain ⟨x, hx⟩ : ∃ x, od[i]? = some x := ⟨od[i]'(by rw [H7.out.1.len]; exact hlt), List.getElem?_eq_getElem _⟩
      have hxt : x < tg := H7.out.1.lt x (List.mem_of_getElem? hx)
      obtain ⟨go, co, ho1, c1⟩ := own_cell (own_up4 H7.out.2.1 hA.bl) (cast_at hx)
      simp only [Value.slice.injEq] at ho1
      obtain ⟨rfl, -, -⟩ := ho1
      have u0 := hA.cell (il_at (pv od i) hxt)
      rw [pv_new H7.out.1.nodup hx] at u0
      have uf := hA.free x
      have p0 : (0 : Int) ≤ (i : Int) := by omega
      have p1 : (i : Int) < (tg : Int) := by omega
      have p2 : (0 : Int) ≤ (x : Int) := by omega
      have p3 : (x : Int) < (tg : Int) := by omega
      have p4 : ¬ (x : Int) < 0 := by omega
      have p5 : ¬ (tg : Int) ≤ (x : Int) := by omega
      have p6 : IntKind.i64.wrap ((i : Int) + 1) = (i : Int) + 1 := by rw [IntKind.wrap_i64]; omega
      have g1 : decide ((x : Int) < 0) = false := by simp
      have g2 : decide ((tg : Int) ≤ (x : Int)) = false := by simp; omega
      have g3 : decide (tg ≤ x) = false := by simp; omega
      have HA : Hid _ := And.intro hA hx
      clear hA hx hxt
      go_upto_region 16 with fail
      refine wp_region_held_drew (S := (fun W => W.cell? ⟨w2.heap.size, 0, none⟩ = some (.int .i64 tg) ∧ W.cell? ⟨go, i, none⟩ = some (.int .i64 x) ∧ W.cell? ⟨gi, x, none⟩ = some (.int .i64 0))) (by kernel_rfl) ?_ (fun hHeld => ?_)
      · exact ⟨t0, c1, u0⟩
      refine wpAnyH_take (i := 0) (oi := _) (v := ?_) rfl (by kernel_rfl) (by kernel_rfl) (by kernel_rfl) (fun _ _ _ h => h) (Or.inl ⟨by rfl, ?_⟩) (by assumption) ?_
      rotate_left
      · (intro w hSw; (try dsimp only at hSw); go_simp; (try with_reducible rfl))
      (try simp only [List.getElem_toArray, List.getElem_cons_succ, List.getElem_cons_zero, Act.put, List.setIfInBounds_toArray, List.set_cons_zero, List.set_cons_succ])
      refine wpAnyH_take (i := 1) (oi := _) (v := ?_) rfl (by kernel_rfl) (by kernel_rfl) (by kernel_rfl) (fun _ _ _ h => h) (Or.inl ⟨by rfl, ?_⟩) (by assumption) ?_
      rotate_left
      · (intro w hSw; (try dsimp only at hSw); go_simp; (try with_reducible rfl))
      (try simp only [List.getElem_toArray, List.getElem_cons_succ, List.getElem_cons_zero, Act.put, List.setIfInBounds_toArray, List.set_cons_zero, List.set_cons_succ])
      refine wpAnyH_take (i := 2) (oi := _) (v := ?_) rfl (by kernel_rfl) (by kernel_rfl) (by kernel_rfl) (fun _ _ _ h => h) (Or.inl ⟨by rfl, ?_⟩) (by assumption) ?_
      rotate_left
      · (intro w hSw; (try dsimp only at hSw); go_simp; (try with_reducible rfl))
      (try simp only [List.getElem_toArray, List.getElem_cons_succ, List.getElem_cons_zero, Act.put, List.setIfInBounds_toArray, List.set_cons_zero, List.set_cons_succ])
      refine wpAnyH_take (i := 3) (oi := _) (v := ?_) rfl (by kernel_rfl) (by kernel_rfl) (by kernel_rfl) (fun _ _ _ h => h) (Or.inl ⟨by rfl, ?_⟩) (by assumption) ?_
      rotate_left
      · (intro w hSw; (try dsimp only at hSw); go_simp; (try with_reducible rfl))
      (try simp only [List.getElem_toArray, List.getElem_cons_succ, List.getElem_cons_zero, Act.put, List.setIfInBounds_toArray, List.set_cons_zero, List.set_cons_succ])
      refine wpAnyH_take (i := 4) (oi := _) (v := ?_) rfl (by kernel_rfl) (by kernel_rfl) (by kernel_rfl) (fun _ _ _ h => h) (Or.inl ⟨by rfl, ?_⟩) (by assumption) ?_
      rotate_left
      · (intro w hSw; (try dsimp only at hSw); go_simp; (try with_reducible rfl))
      (try simp only [List.getElem_toArray, List.getElem_cons_succ, List.getElem_cons_zero, Act.put, List.setIfInBounds_toArray, List.set_cons_zero, List.set_cons_succ])
      refine wpAnyH_take (i := 5) (oi := _) (v := ?_) rfl (by kernel_rfl) (by kernel_rfl) (by kernel_rfl) (fun _ _ _ h => h) (Or.inl ⟨by rfl, ?_⟩) (by assumption) ?_
      rotate_left
      · (intro w hSw; (try dsimp only at hSw); go_simp; (try with_reducible rfl))
      (try simp only [List.getElem_toArray, List.getElem_cons_succ, List.getElem_cons_zero, Act.put, List.setIfInBounds_toArray, List.set_cons_zero, List.set_cons_succ])
      refine wpAnyH_take (i := 6) (oi := _) (v := ?_) rfl (by kernel_rfl) (by kernel_rfl) (by kernel_rfl) (fun _ _ _ h => h) (Or.inl ⟨by rfl, ?_⟩) (by assumption) ?_
      rotate_left
      · (intro w hSw; (try dsimp only at hSw); go_simp; (try with_reducible rfl))
      (try simp only [List.getElem_toArray, List.getElem_cons_succ, List.getElem_cons_zero, Act.put, List.setIfInBounds_toArray, List.set_cons_zero, List.set_cons_succ])
      refine wpAnyH_take (i := 7) (oi := _) (v := ?_) rfl (by kernel_rfl) (by kernel_rfl) (by kernel_rfl) (fun _ _ _ h => h) (Or.inl ⟨by rfl, ?_⟩) (by assumption) ?_
      rotate_left
      · (intro w hSw; (try dsimp only at hSw); go_simp; (try with_reducible rfl))
      (try simp only [List.getElem_toArray, List.getElem_cons_succ, List.getElem_cons_zero, Act.put, List.setIfInBounds_toArray, List.set_cons_zero, List.set_cons_succ])
      refine wpAnyH_take (i := 8) (oi := _) (v := ?_) rfl (by kernel_rfl) (by kernel_rfl) (by kernel_rfl) (fun _ _ _ h => h) (Or.inl ⟨by rfl, ?_⟩) (by assumption) ?_
      rotate_left
      · (intro w hSw; (try dsimp only at hSw); go_simp; (try with_reducible rfl))
      (try simp only [List.getElem_toArray, List.getElem_cons_succ, List.getElem_cons_zero, Act.put, List.setIfInBounds_toArray, List.set_cons_zero, List.set_cons_succ])
      refine wpAnyH_take (i := 9) (oi := _) (v := ?_) rfl (by kernel_rfl) (by kernel_rfl) (by kernel_rfl) (fun _ _ _ h => h) (Or.inl ⟨by rfl, ?_⟩) (by assumption) ?_
      rotate_left
      · (intro w hSw; (try dsimp only at hSw); go_simp; (try with_reducible rfl))
      (try simp only [List.getElem_toArray, List.getElem_cons_succ, List.getElem_cons_zero, Act.put, List.setIfInBounds_toArray, List.set_cons_zero, List.set_cons_succ])
      refine wpAnyH_take (i := 10) (oi := _) (v := ?_) rfl (by kernel_rfl) (by kernel_rfl) (by kernel_rfl) (fun _ _ _ h => h) (Or.inl ⟨by rfl, ?_⟩) (by assumption) ?_
      rotate_left
      · (intro w hSw; (try dsimp only at hSw); go_simp; (try with_reducible rfl))
      (try simp only [List.getElem_toArray, List.getElem_cons_succ, List.getElem_cons_zero, Act.put, List.setIfInBounds_toArray, List.set_cons_zero, List.set_cons_succ])
      refine wpAnyH_take (i := 11) (oi := _) (v := ?_) rfl (by kernel_rfl) (by kernel_rfl) (by kernel_rfl) (fun _ _ _ h => h) (Or.inl ⟨by rfl, ?_⟩) (by assumption) ?_
      rotate_left
      · (intro w hSw; (try dsimp only at hSw); go_simp; (try with_reducible rfl))
      (try simp only [List.getElem_toArray, List.getElem_cons_succ, List.getElem_cons_zero, Act.put, List.setIfInBounds_toArray, List.set_cons_zero, List.set_cons_succ])
      refine wpAnyH_take (i := 12) (oi := _) (v := ?_) rfl (by kernel_rfl) (by kernel_rfl) (by kernel_rfl) (fun _ _ _ h => h) (Or.inl ⟨by rfl, ?_⟩) (by assumption) ?_
      rotate_left
      · (intro w hSw; (try dsimp only at hSw); go_simp; (try with_reducible rfl))
      (try simp only [List.getElem_toArray, List.getElem_cons_succ, List.getElem_cons_zero, Act.put, List.setIfInBounds_toArray, List.set_cons_zero, List.set_cons_succ])
      refine wpAnyH_take (i := 13) (oi := _) (v := ?_) rfl (by kernel_rfl) (by kernel_rfl) (by kernel_rfl) (fun _ _ _ h => h) (Or.inl ⟨by rfl, ?_⟩) (by assumption) ?_
      rotate_left
      · (intro w hSw; (try dsimp only at hSw); go_simp; (try with_reducible rfl))
      (try simp only [List.getElem_toArray, List.getElem_cons_succ, List.getElem_cons_zero, Act.put, List.setIfInBounds_toArray, List.set_cons_zero, List.set_cons_succ])
      refine wpAnyH_take (i := 14) (oi := _) (v := ?_) rfl (by kernel_rfl) (by kernel_rfl) (by kernel_rfl) (fun _ _ _ h => h) (Or.inl ⟨by rfl, ?_⟩) (by assumption) ?_
      rotate_left
      · (intro w hSw; (try dsimp only at hSw); go_simp; (try with_reducible rfl))
      (try simp only [List.getElem_toArray, List.getElem_cons_succ, List.getElem_cons_zero, Act.put, List.setIfInBounds_toArray, List.set_cons_zero, List.set_cons_succ])
      refine wpAnyH_take (i := 15) (oi := _) (v := ?_) rfl (by kernel_rfl) (by kernel_rfl) (by kernel_rfl) (fun _ _ _ h => h) (Or.inl ⟨by rfl, ?_⟩) (by assumption) ?_
      rotate_left
      · (intro w hSw; (try dsimp only at hSw); go_simp; (try with_reducible rfl))
      (try simp only [List.getElem_toArray, List.getElem_cons_succ, List.getElem_cons_zero, Act.put, List.setIfInBounds_toArray, List.set_cons_zero, List.set_cons_succ])
      refine wpAnyH_take (i := 16) (oi := _) (v := ?_) rfl (by kernel_rfl) (by kernel_rfl) (by kernel_rfl) (fun _ _ _ h => h) (Or.inl ⟨by rfl, ?_⟩) (by assumption) ?_
      rotate_left
      · (intro w hSw; (try dsimp only at hSw); go_simp; (try with_reducible rfl))
      (try simp only [List.getElem_toArray, List.getElem_cons_succ, List.getElem_cons_zero, Act.put, List.setIfInBounds_toArray, List.set_cons_zero, List.set_cons_succ])
      refine wpAnyH_take (i := 17) (oi := _) (v := ?_) rfl (by kernel_rfl) (by kernel_rfl) (by kernel_rfl) (fun _ _ _ h => h) (Or.inl ⟨by rfl, ?_⟩) (by assumption) ?_
      rotate_left
      · (intro w hSw; (try dsimp only at hSw); go_simp; (try with_reducible rfl))
      (try simp only [List.getElem_toArray, List.getElem_cons_succ, List.getElem_cons_zero, Act.put, List.setIfInBounds_toArray, List.set_cons_zero, List.set_cons_succ])
      refine wpAnyH_take (i := 18) (oi := _) (v := ?_) rfl (by kernel_rfl) (by kernel_rfl) (by kernel_rfl) (fun _ _ _ h => h) (Or.inl ⟨by rfl, ?_⟩) (by assumption) ?_
      rotate_left
      · (intro w hSw; (try dsimp only at hSw); go_simp; (try with_reducible rfl))
      (try simp only [List.getElem_toArray, List.getElem_cons_succ, List.getElem_cons_zero, Act.put, List.setIfInBounds_toArray, List.set_cons_zero, List.set_cons_succ])
      refine wpAnyH_take (i := 19) (oi := _) (v := ?_) rfl (by kernel_rfl) (by kernel_rfl) (by kernel_rfl) (fun _ _ _ h => h) (Or.inl ⟨by rfl, ?_⟩) (by assumption) ?_
      rotate_left
      · (intro w hSw; (try dsimp only at hSw); go_simp; (try with_reducible rfl))
      (try simp only [List.getElem_toArray, List.getElem_cons_succ, List.getElem_cons_zero, Act.put, List.setIfInBounds_toArray, List.set_cons_zero, List.set_cons_succ])
      refine wpAnyH_take (i := 20) (oi := _) (v := ?_) rfl (by kernel_rfl) (by kernel_rfl) (by kernel_rfl) (fun _ _ _ h => h) (Or.inl ⟨by rfl, ?_⟩) (by assumption) ?_
      rotate_left
      · (intro w hSw; (try dsimp only at hSw); go_simp; (try with_reducible rfl))
      (try simp only [List.getElem_toArray, List.getElem_cons_succ, List.getElem_cons_zero, Act.put, List.setIfInBounds_toArray, List.set_cons_zero, List.set_cons_succ])
      refine wpAnyH_take (i := 21) (oi := _) (v := ?_) rfl (by kernel_rfl) (by kernel_rfl) (by kernel_rfl) (fun _ _ _ h => h) (Or.inl ⟨by rfl, ?_⟩) (by assumption) ?_
      rotate_left
      · (intro w hSw; (try dsimp only at hSw); go_simp; (try with_reducible rfl))
      (try simp only [List.getElem_toArray, List.getElem_cons_succ, List.getElem_cons_zero, Act.put, List.setIfInBounds_toArray, List.set_cons_zero, List.set_cons_succ])
      refine wpAnyH_take (i := 22) (oi := _) (v := ?_) rfl (by kernel_rfl) (by kernel_rfl) (by kernel_rfl) (fun _ _ _ h => h) (Or.inl ⟨by rfl, ?_⟩) (by assumption) ?_
      rotate_left
      · (intro w hSw; (try dsimp only at hSw); go_simp; (try with_reducible rfl))
      (try simp only [List.getElem_toArray, List.getElem_cons_succ, List.getElem_cons_zero, Act.put, List.setIfInBounds_toArray, List.set_cons_zero, List.set_cons_succ])
      refine wpAnyH_take (i := 23) (oi := _) (v := ?_) rfl (by kernel_rfl) (by kernel_rfl) (by kernel_rfl) (fun _ _ _ h => h) (Or.inl ⟨by rfl, ?_⟩) (by assumption) ?_
      rotate_left
      · (intro w hSw; (try dsimp only at hSw); go_simp; (try with_reducible rfl))
      (try simp only [List.getElem_toArray, List.getElem_cons_succ, List.getElem_cons_zero, Act.put, List.setIfInBounds_toArray, List.set_cons_zero, List.set_cons_succ])
      refine wpAnyH_done (by kernel_rfl) ?_ _
      (try go_simp)
      go_wp2_with fail
      go_roundg (tg - (i + 1))
      case measure => omega
      case rel => exact ⟨i + 1, rfl, by omega, by go_num, by have h9 := (HA.out.1.below ((Below.refl _ _).drew)).set x (.int .i64 ((i : Int) + 1)); rw [il_set, il_congr (fun p _ => pv_next H7.out.1.nodup HA.out.2 p)] at h9; exact h9⟩
    · obtain rfl : tg = i := by omega
      have p1 : ¬ (tg : Int) < (tg : Int) := by omega
      obtain ⟨wo, rfl⟩ : ∃ wo, wo = wr := ⟨_, rfl⟩
      have HA : Hid _ := hA
      clear hA hi hlt
      go_wp2_with fail
      go_loopg [125] M (fun q s125 wx => ∃ i : Nat, q = M - i ∧ i ≤ M ∧ s125 = .int .i64 i ∧ Below wo.heap.size wo wx)
      case atStart => exact ⟨0, rfl, Nat.zero_le _, rfl, Below.refl _ _⟩
      case round =>
        obtain ⟨i, rfl, hi, rfl, hbl⟩ := hrel
        clear p1 t0 t1 t2 t3
        have hAx := HA.out.below hbl
        by_cases hlt : i < M
        · obtain ⟨⟨f1, f2, f3⟩, hz⟩ : ∃ e, E[i]? = some e := ⟨E[i]'(by have := H3.out.2.2.2.2.2.2.1; omega), List.getElem?_eq_getElem _⟩
          have hin := (right_parts H3.out.2.2.2.2.2.1.right).2.2.2.2.2 _ (List.mem_of_getElem? hz)
          simp only at hin
          obtain ⟨f, rfl⟩ : ∃ p : Nat, f1 = (p : Int) := ⟨f1.toNat, by omega⟩
          obtain ⟨t, rfl⟩ : ∃ p : Nat, f3 = (p : Int) := ⟨f3.toNat, by omega⟩
          have hft : f < tg := by omega
          have htt : t < tg := by omega
          have b3x := H7.out.2.2.1.trans (hAx.bl.mono H7.out.2.2.1.size)
          obtain ⟨a4, hae, d0, d1, d2⟩ := edge_at (edge_up4 H3.out.2.2.2.2.1 b3x).has hz
          subst hae
          simp only at d0 d1 d2
          obtain ⟨w9, hw9⟩ : ∃ w9, w9 = wr.alloc (.cells #[.int .i64 f, .int .i64 f2, .int .i64 t] 36) := ⟨_, rfl⟩
          have hb9 : Below wr.heap.size wr w9 := by rw [hw9]; exact (Below.refl _ _).alloc (Nat.le_refl _) _
          have hx9 : w9.heap[wr.heap.size]? = some (.cells #[.int .i64 f, .int .i64 f2, .int .i64 t] 36 (0, 0)) := by rw [hw9]; exact heap_alloc_new wr _
          have y0 : w9.cell? ⟨wr.heap.size, 0, none⟩ = some (.int .i64 f) := cell0_of hx9 rfl
          have y1 : w9.cell? ⟨wr.heap.size, 1, none⟩ = some (.int .i64 f2) := cell0_of hx9 rfl
          have y2 : w9.cell? ⟨wr.heap.size, 2, none⟩ = some (.int .i64 t) := cell0_of hx9 rfl
          obtain ⟨zf, hzf⟩ : ∃ z, z = pv od tg f := ⟨_, rfl⟩
          obtain ⟨zt, hzt⟩ : ∃ z, z = pv od tg t := ⟨_, rfl⟩
          have cf := cell_up (hAx.cell (il_at (pv od tg) hft)) hb9
          have ct := cell_up (hAx.cell (il_at (pv od tg) htt)) hb9
          rw [← hzf] at cf
          rw [← hzt] at ct
          have p0 : (0 : Int) ≤ (i : Int) := by omega
          have p1 : (i : Int) < (M : Int) := by omega
          have p2 : (0 : Int) ≤ (f : Int) := by omega
          have p3 : (f : Int) < (tg : Int) := by omega
          have p4 : (0 : Int) ≤ (t : Int) := by omega
          have p5 : (t : Int) < (tg : Int) := by omega
          have p6 : IntKind.i64.wrap ((i : Int) + 1) = (i : Int) + 1 := by rw [IntKind.wrap_i64]; omega
          have HB : Hid _ := And.intro (bel13 hb9 hbl) (And.intro hz (And.intro hw9 (And.intro hzf (And.intro hzt (And.intro hft htt)))))
          clear hbl hAx hin b3x hz hw9 hb9 hx9 hzf hzt hft htt
          go_upto_region 22 with fail
          rw [← HB.out.2.2.1]
          by_cases h20 : f2 = 0
          · have hpv : zt < zf := by
              rw [HB.out.2.2.2.1, HB.out.2.2.2.2.1]
              exact pv_lt H7.out.1 H3.out.2.2.2.2.2.1.right HB.out.2.2.2.2.2.1 HB.out.2.2.2.2.2.2 (by rw [← h20]; exact List.mem_of_getElem? HB.out.2.1)
            have g1 : (f2 == 0) = true := by simp [h20]
            have g2 : decide (zf ≤ zt) = false := by simp; omega
            have g3 : ¬ zf ≤ zt := by omega
            clear h20 hpv
            refine wp_region_held_drew (S := (fun W => W.cell? ⟨wr.heap.size, 0, none⟩ = some (.int .i64 f) ∧ W.cell? ⟨wr.heap.size, 1, none⟩ = some (.int .i64 f2) ∧ W.cell? ⟨wr.heap.size, 2, none⟩ = some (.int .i64 t) ∧ W.cell? ⟨gi, f, none⟩ = some (.int .i64 zf) ∧ W.cell? ⟨gi, t, none⟩ = some (.int .i64 zt))) (by kernel_rfl) ?_ (fun hHeld => ?_)
            · exact ⟨y0, y1, y2, cf, ct⟩
            refine wpAnyH_take (i := 0) (oi := _) (v := ?_) rfl (by kernel_rfl) (by kernel_rfl) (by kernel_rfl) (fun _ _ _ h => h) (Or.inl ⟨by rfl, ?_⟩) (by assumption) ?_
            rotate_left
            · (intro w hSw; (try dsimp only at hSw); go_simp; (try with_reducible rfl))
            (try simp only [List.getElem_toArray, List.getElem_cons_succ, List.getElem_cons_zero, Act.put, List.setIfInBounds_toArray, List.set_cons_zero, List.set_cons_succ])
            refine wpAnyH_take (i := 1) (oi := _) (v := ?_) rfl (by kernel_rfl) (by kernel_rfl) (by kernel_rfl) (fun _ _ _ h => h) (Or.inl ⟨by rfl, ?_⟩) (by assumption) ?_
            rotate_left
            · (intro w hSw; (try dsimp only at hSw); go_simp; (try with_reducible rfl))
            (try simp only [List.getElem_toArray, List.getElem_cons_succ, List.getElem_cons_zero, Act.put, List.setIfInBounds_toArray, List.set_cons_zero, List.set_cons_succ])
            refine wpAnyH_take (i := 2) (oi := _) (v := ?_) rfl (by kernel_rfl) (by kernel_rfl) (by kernel_rfl) (fun _ _ _ h => h) (Or.inl ⟨by rfl, ?_⟩) (by assumption) ?_
            rotate_left
            · (intro w hSw; (try dsimp only at hSw); go_simp; (try with_reducible rfl))
            (try simp only [List.getElem_toArray, List.getElem_cons_succ, List.getElem_cons_zero, Act.put, List.setIfInBounds_toArray, List.set_cons_zero, List.set_cons_succ])
            refine wpAnyH_take (i := 3) (oi := _) (v := ?_) rfl (by kernel_rfl) (by kernel_rfl) (by kernel_rfl) (fun _ _ _ h => h) (Or.inl ⟨by rfl, ?_⟩) (by assumption) ?_
            rotate_left
            · (intro w hSw; (try dsimp only at hSw); go_simp; (try with_reducible rfl))
            (try simp only [List.getElem_toArray, List.getElem_cons_succ, List.getElem_cons_zero, Act.put, List.setIfInBounds_toArray, List.set_cons_zero, List.set_cons_succ])
            refine wpAnyH_take (i := 4) (oi := _) (v := ?_) rfl (by kernel_rfl) (by kernel_rfl) (by kernel_rfl) (fun _ _ _ h => h) (Or.inl ⟨by rfl, ?_⟩) (by assumption) ?_
            rotate_left
            · (intro w hSw; (try dsimp only at hSw); go_simp; (try with_reducible rfl))
            (try simp only [List.getElem_toArray, List.getElem_cons_succ, List.getElem_cons_zero, Act.put, List.setIfInBounds_toArray, List.set_cons_zero, List.set_cons_succ])
            refine wpAnyH_take (i := 5) (oi := _) (v := ?_) rfl (by kernel_rfl) (by kernel_rfl) (by kernel_rfl) (fun _ _ _ h => h) (Or.inl ⟨by rfl, ?_⟩) (by assumption) ?_
            rotate_left
            · (intro w hSw; (try dsimp only at hSw); go_simp; (try with_reducible rfl))
            (try simp only [List.getElem_toArray, List.getElem_cons_succ, List.getElem_cons_zero, Act.put, List.setIfInBounds_toArray, List.set_cons_zero, List.set_cons_succ])
            refine wpAnyH_take (i := 6) (oi := _) (v := ?_) rfl (by kernel_rfl) (by kernel_rfl) (by kernel_rfl) (fun _ _ _ h => h) (Or.inl ⟨by rfl, ?_⟩) (by assumption) ?_
            rotate_left
            · (intro w hSw; (try dsimp only at hSw); go_simp; (try with_reducible rfl))
            (try simp only [List.getElem_toArray, List.getElem_cons_succ, List.getElem_cons_zero, Act.put, List.setIfInBounds_toArray, List.set_cons_zero, List.set_cons_succ])
            refine wpAnyH_take (i := 7) (oi := _) (v := ?_) rfl (by kernel_rfl) (by kernel_rfl) (by kernel_rfl) (fun _ _ _ h => h) (Or.inl ⟨by rfl, ?_⟩) (by assumption) ?_
            rotate_left
            · (intro w hSw; (try dsimp only at hSw); go_simp; (try with_reducible rfl))
            (try simp only [List.getElem_toArray, List.getElem_cons_succ, List.getElem_cons_zero, Act.put, List.setIfInBounds_toArray, List.set_cons_zero, List.set_cons_succ])
            refine wpAnyH_take (i := 8) (oi := _) (v := ?_) rfl (by kernel_rfl) (by kernel_rfl) (by kernel_rfl) (fun _ _ _ h => h) (Or.inl ⟨by rfl, ?_⟩) (by assumption) ?_
            rotate_left
            · (intro w hSw; (try dsimp only at hSw); go_simp; (try with_reducible rfl))
            (try simp only [List.getElem_toArray, List.getElem_cons_succ, List.getElem_cons_zero, Act.put, List.setIfInBounds_toArray, List.set_cons_zero, List.set_cons_succ])
            refine wpAnyH_take (i := 9) (oi := _) (v := ?_) rfl (by kernel_rfl) (by kernel_rfl) (by kernel_rfl) (fun _ _ _ h => h) (Or.inl ⟨by rfl, ?_⟩) (by assumption) ?_
            rotate_left
            · (intro w hSw; (try dsimp only at hSw); go_simp; (try with_reducible rfl))
            (try simp only [List.getElem_toArray, List.getElem_cons_succ, List.getElem_cons_zero, Act.put, List.setIfInBounds_toArray, List.set_cons_zero, List.set_cons_succ])
            refine wpAnyH_take (i := 10) (oi := _) (v := ?_) rfl (by kernel_rfl) (by kernel_rfl) (by kernel_rfl) (fun _ _ _ h => h) (Or.inl ⟨by rfl, ?_⟩) (by assumption) ?_
            rotate_left
            · (intro w hSw; (try dsimp only at hSw); go_simp; (try with_reducible rfl))
            (try simp only [List.getElem_toArray, List.getElem_cons_succ, List.getElem_cons_zero, Act.put, List.setIfInBounds_toArray, List.set_cons_zero, List.set_cons_succ])
            refine wpAnyH_take (i := 11) (oi := _) (v := ?_) rfl (by kernel_rfl) (by kernel_rfl) (by kernel_rfl) (fun _ _ _ h => h) (Or.inl ⟨by rfl, ?_⟩) (by assumption) ?_
            rotate_left
            · (intro w hSw; (try dsimp only at hSw); go_simp; (try with_reducible rfl))
            (try simp only [List.getElem_toArray, List.getElem_cons_succ, List.getElem_cons_zero, Act.put, List.setIfInBounds_toArray, List.set_cons_zero, List.set_cons_succ])
            refine wpAnyH_take (i := 12) (oi := _) (v := ?_) rfl (by kernel_rfl) (by kernel_rfl) (by kernel_rfl) (fun _ _ _ h => h) (Or.inl ⟨by rfl, ?_⟩) (by assumption) ?_
            rotate_left
            · (intro w hSw; (try dsimp only at hSw); go_simp; (try with_reducible rfl))
            (try simp only [List.getElem_toArray, List.getElem_cons_succ, List.getElem_cons_zero, Act.put, List.setIfInBounds_toArray, List.set_cons_zero, List.set_cons_succ])
            refine wpAnyH_take (i := 13) (oi := _) (v := ?_) rfl (by kernel_rfl) (by kernel_rfl) (by kernel_rfl) (fun _ _ _ h => h) (Or.inl ⟨by rfl, ?_⟩) (by assumption) ?_
            rotate_left
            · (intro w hSw; (try dsimp only at hSw); go_simp; (try with_reducible rfl))
            (try simp only [List.getElem_toArray, List.getElem_cons_succ, List.getElem_cons_zero, Act.put, List.setIfInBounds_toArray, List.set_cons_zero, List.set_cons_succ])
            refine wpAnyH_take (i := 14) (oi := _) (v := ?_) rfl (by kernel_rfl) (by kernel_rfl) (by kernel_rfl) (fun _ _ _ h => h) (Or.inl ⟨by rfl, ?_⟩) (by assumption) ?_
            rotate_left
            · (intro w hSw; (try dsimp only at hSw); go_simp; (try with_reducible rfl))
            (try simp only [List.getElem_toArray, List.getElem_cons_succ, List.getElem_cons_zero, Act.put, List.setIfInBounds_toArray, List.set_cons_zero, List.set_cons_succ])
            refine wpAnyH_take (i := 15) (oi := _) (v := ?_) rfl (by kernel_rfl) (by kernel_rfl) (by kernel_rfl) (fun _ _ _ h => h) (Or.inl ⟨by rfl, ?_⟩) (by assumption) ?_
            rotate_left
            · (intro w hSw; (try dsimp only at hSw); go_simp; (try with_reducible rfl))
            (try simp only [List.getElem_toArray, List.getElem_cons_succ, List.getElem_cons_zero, Act.put, List.setIfInBounds_toArray, List.set_cons_zero, List.set_cons_succ])
            refine wpAnyH_done (by kernel_rfl) ?_ _
            (try go_simp)
            go_wp2_with fail
            go_roundg (M - (i + 1))
            case measure => omega
            case rel => exact ⟨i + 1, rfl, by omega, by go_num, HB.out.1.trans (((Below.refl _ _).drew).mono HB.out.1.size)⟩
          · have g1 : (f2 == 0) = false := by simp [h20]
            clear h20
            refine wp_region_held_drew (S := (fun W => W.cell? ⟨wr.heap.size, 0, none⟩ = some (.int .i64 f) ∧ W.cell? ⟨wr.heap.size, 1, none⟩ = some (.int .i64 f2) ∧ W.cell? ⟨wr.heap.size, 2, none⟩ = some (.int .i64 t) ∧ W.cell? ⟨gi, f, none⟩ = some (.int .i64 zf) ∧ W.cell? ⟨gi, t, none⟩ = some (.int .i64 zt))) (by kernel_rfl) ?_ (fun hHeld => ?_)
            · exact ⟨y0, y1, y2, cf, ct⟩
            refine wpAnyH_take (i := 0) (oi := _) (v := ?_) rfl (by kernel_rfl) (by kernel_rfl) (by kernel_rfl) (fun _ _ _ h => h) (Or.inl ⟨by rfl, ?_⟩) (by assumption) ?_
            rotate_left
            · (intro w hSw; (try dsimp only at hSw); go_simp; (try with_reducible rfl))
            (try simp only [List.getElem_toArray, List.getElem_cons_succ, List.getElem_cons_zero, Act.put, List.setIfInBounds_toArray, List.set_cons_zero, List.set_cons_succ])
            refine wpAnyH_take (i := 1) (oi := _) (v := ?_) rfl (by kernel_rfl) (by kernel_rfl) (by kernel_rfl) (fun _ _ _ h => h) (Or.inl ⟨by rfl, ?_⟩) (by assumption) ?_
            rotate_left
            · (intro w hSw; (try dsimp only at hSw); go_simp; (try with_reducible rfl))
            (try simp only [List.getElem_toArray, List.getElem_cons_succ, List.getElem_cons_zero, Act.put, List.setIfInBounds_toArray, List.set_cons_zero, List.set_cons_succ])
            refine wpAnyH_take (i := 2) (oi := _) (v := ?_) rfl (by kernel_rfl) (by kernel_rfl) (by kernel_rfl) (fun _ _ _ h => h) (Or.inl ⟨by rfl, ?_⟩) (by assumption) ?_
            rotate_left
            · (intro w hSw; (try dsimp only at hSw); go_simp; (try with_reducible rfl))
            (try simp only [List.getElem_toArray, List.getElem_cons_succ, List.getElem_cons_zero, Act.put, List.setIfInBounds_toArray, List.set_cons_zero, List.set_cons_succ])
            refine wpAnyH_take (i := 3) (oi := _) (v := ?_) rfl (by kernel_rfl) (by kernel_rfl) (by kernel_rfl) (fun _ _ _ h => h) (Or.inl ⟨by rfl, ?_⟩) (by assumption) ?_
            rotate_left
            · (intro w hSw; (try dsimp only at hSw); go_simp; (try with_reducible rfl))
            (try simp only [List.getElem_toArray, List.getElem_cons_succ, List.getElem_cons_zero, Act.put, List.setIfInBounds_toArray, List.set_cons_zero, List.set_cons_succ])
            refine wpAnyH_take (i := 4) (oi := _) (v := undef) rfl (by kernel_rfl) (by kernel_rfl) (by kernel_rfl) (fun _ _ _ h => h) (Or.inr ⟨by rfl, rfl⟩) (by assumption) ?_
            (try simp only [List.getElem_toArray, List.getElem_cons_succ, List.getElem_cons_zero, Act.put, List.setIfInBounds_toArray, List.set_cons_zero, List.set_cons_succ])
            refine wpAnyH_take (i := 5) (oi := _) (v := undef) rfl (by kernel_rfl) (by kernel_rfl) (by kernel_rfl) (fun _ _ _ h => h) (Or.inr ⟨by rfl, rfl⟩) (by assumption) ?_
            (try simp only [List.getElem_toArray, List.getElem_cons_succ, List.getElem_cons_zero, Act.put, List.setIfInBounds_toArray, List.set_cons_zero, List.set_cons_succ])
            refine wpAnyH_take (i := 6) (oi := _) (v := undef) rfl (by kernel_rfl) (by kernel_rfl) (by kernel_rfl) (fun _ _ _ h => h) (Or.inr ⟨by rfl, rfl⟩) (by assumption) ?_
            (try simp only [List.getElem_toArray, List.getElem_cons_succ, List.getElem_cons_zero, Act.put, List.setIfInBounds_toArray, List.set_cons_zero, List.set_cons_succ])
            refine wpAnyH_take (i := 7) (oi := _) (v := undef) rfl (by kernel_rfl) (by kernel_rfl) (by kernel_rfl) (fun _ _ _ h => h) (Or.inr ⟨by rfl, rfl⟩) (by assumption) ?_
            (try simp only [List.getElem_toArray, List.getElem_cons_succ, List.getElem_cons_zero, Act.put, List.setIfInBounds_toArray, List.set_cons_zero, List.set_cons_succ])
            refine wpAnyH_take (i := 8) (oi := _) (v := undef) rfl (by kernel_rfl) (by kernel_rfl) (by kernel_rfl) (fun _ _ _ h => h) (Or.inr ⟨by rfl, rfl⟩) (by assumption) ?_
            (try simp only [List.getElem_toArray, List.getElem_cons_succ, List.getElem_cons_zero, Act.put, List.setIfInBounds_toArray, List.set_cons_zero, List.set_cons_succ])
            refine wpAnyH_take (i := 9) (oi := _) (v := undef) rfl (by kernel_rfl) (by kernel_rfl) (by kernel_rfl) (fun _ _ _ h => h) (Or.inr ⟨by rfl, rfl⟩) (by assumption) ?_
            (try simp only [List.getElem_toArray, List.getElem_cons_succ, List.getElem_cons_zero, Act.put, List.setIfInBounds_toArray, List.set_cons_zero, List.set_cons_succ])
            refine wpAnyH_take (i := 10) (oi := _) (v := undef) rfl (by kernel_rfl) (by kernel_rfl) (by kernel_rfl) (fun _ _ _ h => h) (Or.inr ⟨by rfl, rfl⟩) (by assumption) ?_
            (try simp only [List.getElem_toArray, List.getElem_cons_succ, List.getElem_cons_zero, Act.put, List.setIfInBounds_toArray, List.set_cons_zero, List.set_cons_succ])
            refine wpAnyH_take (i := 11) (oi := _) (v := undef) rfl (by kernel_rfl) (by kernel_rfl) (by kernel_rfl) (fun _ _ _ h => h) (Or.inr ⟨by rfl, rfl⟩) (by assumption) ?_
            (try simp only [List.getElem_toArray, List.getElem_cons_succ, List.getElem_cons_zero, Act.put, List.setIfInBounds_toArray, List.set_cons_zero, List.set_cons_succ])
            refine wpAnyH_take (i := 12) (oi := _) (v := undef) rfl (by kernel_rfl) (by kernel_rfl) (by kernel_rfl) (fun _ _ _ h => h) (Or.inr ⟨by rfl, rfl⟩) (by assumption) ?_
            (try simp only [List.getElem_toArray, List.getElem_cons_succ, List.getElem_cons_zero, Act.put, List.setIfInBounds_toArray, List.set_cons_zero, List.set_cons_succ])
            refine wpAnyH_take (i := 13) (oi := _) (v := undef) rfl (by kernel_rfl) (by kernel_rfl) (by kernel_rfl) (fun _ _ _ h => h) (Or.inr ⟨by rfl, rfl⟩) (by assumption) ?_
            (try simp only [List.getElem_toArray, List.getElem_cons_succ, List.getElem_cons_zero, Act.put, List.setIfInBounds_toArray, List.set_cons_zero, List.set_cons_succ])
            refine wpAnyH_take (i := 14) (oi := _) (v := undef) rfl (by kernel_rfl) (by kernel_rfl) (by kernel_rfl) (fun _ _ _ h => h) (Or.inr ⟨by rfl, rfl⟩) (by assumption) ?_
            (try simp only [List.getElem_toArray, List.getElem_cons_succ, List.getElem_cons_zero, Act.put, List.setIfInBounds_toArray, List.set_cons_zero, List.set_cons_succ])
            refine wpAnyH_take (i := 15) (oi := _) (v := ?_) rfl (by kernel_rfl) (by kernel_rfl) (by kernel_rfl) (fun _ _ _ h => h) (Or.inl ⟨by rfl, ?_⟩) (by assumption) ?_
            rotate_left
            · (intro w hSw; (try dsimp only at hSw); go_simp; (try with_reducible rfl))
            (try simp only [List.getElem_toArray, List.getElem_cons_succ, List.getElem_cons_zero, Act.put, List.setIfInBounds_toArray, List.set_cons_zero, List.set_cons_succ])
            refine wpAnyH_done (by kernel_rfl) ?_ _
            (try go_simp)
            go_wp2_with fail
            go_roundg (M - (i + 1))
            case measure => omega
            case rel => exact ⟨i + 1, rfl, by omega, by go_num, HB.out.1.trans (((Below.refl _ _).drew).mono HB.out.1.size)⟩
        · obtain rfl : M = i := by omega
          have p1 : ¬ (M : Int) < (M : Int) := by omega
          have hb9 := H7.out.2.2.2.2.2.trans ((HA.out.bl.trans (hbl.mono HA.out.bl.size)).mono H7.out.2.2.2.2.2.size)
          have HZ : Hid _ := hb9
          clear hbl hAx hb9 hi hlt
          go_wp2_with (go_at_call 5; refine Calls.mono (HV.out.2.2.1 _ HZ.out) ?_; rintro r9 w9 ⟨rfl, hb9⟩; have H9 : Hid _ := bel13 hb9 HZ.out; clear hb9)
          go_ret
          exact ⟨rfl, H9.out⟩
theorem lawNone_any (hS : SortOk 1000000) (n k s : Int) (v : Value) (es : List Sy.Ed) (a : Addr) (w : World) (hE : Sent w 0 a) (hv : HasE w v es) :
    Calls Tryd.prog 3 #[sysV n k s v] w fun r w' => r = .returned (.bool true) ∧ Below w.heap.size w w' := by
  have hA := pAl hS a w hE
  by_cases h1 : 600 < es.length ∨ 100 < n
  · exact lawN_out n k s v es w hA hv h1
  · cases hq : Sy.right n k s es with
    | false => exact lawN_bad hS n k s v es a w hA hE hv (by omega) (by omega) hq
    | true =>
      have hp := right_parts hq
      obtain ⟨m, rfl⟩ : ∃ m : Nat, n = (m : Int) := ⟨n.toNat, by omega⟩
      exact lawN_in hS m k s v es a w hA hE hv (by omega) (by omega) hq
end Go.Proofs.YtplofbabfkkimaaDoor.Ts
