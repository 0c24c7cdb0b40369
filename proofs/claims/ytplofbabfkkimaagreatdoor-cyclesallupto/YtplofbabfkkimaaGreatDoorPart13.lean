/- Texts of this claim, joined: TsDOrd, TsBad, HaTau, BookInts1, BookI0, BookI1, BookI2, BookI3, BookI4, BookI5. -/
import Derived.Test.YtplofbabfkkimaaGreatDoorPart12
import Derived.Test.YtplofbabfkkimaaGreatDoorPart11
import Derived.Test.YtplofbabfkkimaaGreatDoorPart6
import Derived.Test.YtplofbabfkkimaaGreatDoorPart7
import Derived.Test.YtplofbabfkkimaaGreatDoorPart4
import Derived.Test.YtplofbabfkkimaaGreatDoorPart0
import Derived.Test.YtplofbabfkkimaaGreatDoorPart3
import Derived.Test.YtplofbabfkkimaaGreatDoorPart9
import Derived.Deep.DeepCutAuto
import Derived.Deep.RegionHeld3
/- tauscc: the contract of the document's Order. -/
namespace Go.Proofs.YtplofbabfkkimaaGreatDoor.Ts
open Go.RowKit Go.Maps
attribute [local go_sem ↓] Go.wp_at_zero Go.wp_at_succ
def okB (row : List BSteps.El) (od : List Nat) : Bool := row.all fun e => !(decide (e.1 = 0)) || decide (e.2.toNat ∈ od)
theorem okB_iff {row : List BSteps.El} {od : List Nat} : okB row od = true ↔ ∀ e ∈ row, e.1 = 0 → e.2.toNat ∈ od := by
 unfold okB
 rw [List.all_eq_true]
 constructor
 ·intro h e he h0
  have h1 := h e he
  simpa [h0] using h1
 ·intro h e he
  by_cases h0 : e.1 = 0
  ·simp [h0, h e he h0]
  ·simp [h0]
set_option maxRecDepth 100000 in
set_option maxHeartbeats 4000000 in
theorem ready_any (m gs : Nat) (row : List BSteps.El) (v : Value) (od : List Nat) (w : World) (hv : BSteps.Has w v row) (hr : row.length ≤ 100000) (hto : ∀ e ∈ row, 0 ≤ e.2 ∧ e.2 < (m : Int)) (hst : ∀ y, y < m → w.cell? ⟨gs, y, none⟩ = some (.bool (decide (y ∈ od)))) :
 Calls Tryz.prog 38 #[v, .slice (some ⟨gs, 0, none⟩) m m] w fun r w' => r = .returned (.bool (okB row od)) ∧ w' = w := by
 obtain ⟨ar, cr, hur, -⟩ := id hv
 obtain ⟨R, hR⟩ : ∃ R, R = row.length := ⟨_, rfl⟩
 rw [← hR] at hur hr
 subst hur
 have H : Hid _ := And.intro hv (And.intro hto (And.intro hst hR))
 clear hv hto hst hR
 go_enter Tryz.func38, Tryz.ntmps38
 go_wp2_with fail
 go_loopg [5] R (fun q s5 wx => ∃ j : Nat, q = R - j ∧ j ≤ R ∧ s5 = .int .i64 j ∧ wx = w ∧ ∀ (i : Nat) (e : BSteps.El), i < j → row[i]? = some e → e.1 = 0 → e.2.toNat ∈ od)
 case atStart => exact ⟨0, rfl, Nat.zero_le _, rfl, rfl, fun i e hi => absurd hi (Nat.not_lt_zero i)⟩
 case round =>
  obtain ⟨j, rfl, hj, rfl, hw, hall⟩ := hrel
  subst hw
  by_cases hlt : j < R
  ·obtain ⟨⟨e1, e2⟩, he⟩ : ∃ e, row[j]? = some e := ⟨row[j]'(by have := H.out.2.2.2; omega), List.getElem?_eq_getElem _⟩
   obtain ⟨a5, hae, g0, g1⟩ := step_at H.out.1 he
   subst hae
   simp only at g0 g1
   have hto := H.out.2.1 _ (List.mem_of_getElem? he)
   simp only at hto
   obtain ⟨y, rfl⟩ : ∃ y : Nat, e2 = (y : Int) := ⟨e2.toNat, by omega⟩
   have u0 := H.out.2.2.1 y (by omega)
   have r0 : (0 : Int) ≤ (j : Int) := by omega
   have r1 : (j : Int) < (R : Int) := by omega
   have r2 : (0 : Int) ≤ (y : Int) := by omega
   have r3 : (y : Int) < (m : Int) := by omega
   have r6 : IntKind.i64.wrap ((j : Int) + 1) = (j : Int) + 1 := by rw [IntKind.wrap_i64]; omega
   by_cases hz : e1 = 0
   ·subst hz
    by_cases hy : y ∈ od
    ·simp only [hy, decide_true] at u0
     have HB : Hid _ := And.intro hall (And.intro he hy)
     clear hall he hy hto
     go_wp2_with fail
     go_roundg (R - (j + 1))
     case measure => omega
     case rel =>
      refine ⟨j + 1, rfl, by omega, by go_num, rfl, fun i e hi hie h0 => ?_⟩
      by_cases ei : i = j
      ·subst ei
       rw [HB.out.2.1] at hie
       cases hie
       simpa using HB.out.2.2
      ·exact HB.out.1 i e (by omega) hie h0
    ·simp only [hy, decide_false] at u0
     have HB : Hid _ := And.intro he hy
     clear hall he hy hto
     go_wp2_with fail
     go_ret
     have h9 : okB row od = false := by
      rw [Bool.eq_false_iff]
      intro h
      have h1 := okB_iff.1 h _ (List.mem_of_getElem? HB.out.1) rfl
      exact HB.out.2 (by simpa using h1)
     rw [h9]
     exact ⟨rfl, rfl⟩
   ·have q9 : (e1 == 0) = false := by simp [hz]
    have HB : Hid _ := And.intro hall (And.intro he hz)
    clear hall he hz hto
    go_wp2_with fail
    go_roundg (R - (j + 1))
    case measure => omega
    case rel =>
     refine ⟨j + 1, rfl, by omega, by go_num, rfl, fun i e hi hie h0 => ?_⟩
     by_cases ei : i = j
     ·subst ei
      rw [HB.out.2.1] at hie
      cases hie
      exact absurd h0 HB.out.2.2
     ·exact HB.out.1 i e (by omega) hie h0
  ·obtain rfl : R = j := by omega
   have r1 : ¬ (R : Int) < (R : Int) := by omega
   have h9 : okB row od = true := okB_iff.2 fun e he h0 => by
    obtain ⟨i, hi⟩ := List.mem_iff_getElem?.1 he
    exact hall i e (by have := (List.getElem?_eq_some_iff.1 hi).1; have := H.out.2.2.2; omega) hi h0
   have HB : Hid _ := h9
   clear hall h9 hj hlt
   go_wp2_with fail
   go_ret
   rw [HB.out]
   exact ⟨rfl, rfl⟩
theorem rd_ok {m : Nat} {f : Nat → List BSteps.El} {od : List Nat} {x : Nat} (h0 : ∀ e ∈ f x, 0 ≤ e.2) (hx : x < m) (hn : x ∉ od) : okB (f x) od = true ↔ Rd m (silF f) od x := by
 rw [okB_iff]
 unfold Rd
 constructor
 ·intro h
  refine ⟨hx, hn, fun y hy => ?_⟩
  have h1 := h _ ((silF_mem h0).1 hy) rfl
  simpa using h1
 ·rintro ⟨_, _, h⟩ e he he0
  refine h _ ((silF_mem h0).2 ?_)
  obtain ⟨e1, e2⟩ := e
  simp only at he0
  subst he0
  have h2 := h0 _ he
  simp only at h2
  rw [Int.toNat_of_nonneg h2]
  exact he
theorem Grd.some {n : Nat} {out : Nat → List Nat} {od : List Nat} (h : Grd n out od) (hA : Acy n out) (hl : od.length < n) : ∃ x, Rd n out od x := by
 by_cases he : ∃ x, Rd n out od x
 ·exact he
 ·have h1 := (h.all hA fun x hx => he ⟨x, hx⟩).1
  omega
set_option linter.unusedSimpArgs false in
set_option maxRecDepth 100000 in
set_option maxHeartbeats 8000000 in
theorem docOrder_any (n : Nat) (k s : Int) (v : Value) (es : List Sy.Ed) (w : World) (hv : HasE w v es) (hq : Sy.right n k s es = true) :
 Calls Tryz.prog 16 #[sysV n k s v] w fun r w' => ∃ (u : Value) (cl od : List Nat), r = .returned u ∧ Cl n es cl ∧ Grd (tog cl) (sil (tog cl) (btw cl es)) od ∧ (∀ x, ¬ Rd (tog cl) (sil (tog cl) (btw cl es)) od x) ∧ OwnI w' w.heap.size u (od.flatMap (memI cl)) ∧ Below w.heap.size w w' := by
 obtain ⟨i0, hi0, hz0, hz1, hz2⟩ := info_parts Tryz.infoI4
 obtain ⟨va, vn, vc, rfl⟩ : ∃ a m c, v = .slice a m c := by obtain ⟨ao, cap, rfl, _⟩ := hv; exact ⟨_, _, _, rfl⟩
 obtain ⟨w1, hw1⟩ : ∃ w1, w1 = w.alloc (.cells #[.int .i64 n, .int .i64 k, .int .i64 s, .slice va vn vc] 24) := ⟨_, rfl⟩
 have hb1 : Below w.heap.size w w1 := by rw [hw1]; exact (Below.refl _ _).alloc (Nat.le_refl _) _
 have hg1 : w1.heap[w.heap.size]? = some (.cells #[.int .i64 n, .int .i64 k, .int .i64 s, .slice va vn vc] 24 (0, 0)) := by rw [hw1]; exact heap_alloc_new w _
 have hC := docCollapse_any n k s (.slice va vn vc) es w1 (hv.below hb1) hq
 have hn1 : n ≤ 1000 := by have := (right_parts hq).1.2; omega
 obtain ⟨x0, x1, x2, x3⟩ := four_cells hg1
 unfold sysV at hC ⊢
 have H1 : Hid _ := And.intro hw1 (And.intro hb1 (And.intro hg1 (And.intro hC hq)))
 clear hv hw1 hb1 hg1 hC hq
 go_enter Tryz.func16, Tryz.ntmps16
 go_upto_region 1 with fail
 rw [← H1.out.1]
 go_wp2_with fail
 refine Calls.mono H1.out.2.2.2.1 ?_
 rintro r w2 ⟨ue, u, cl, rfl, hCl, hOe, hOc, hb2⟩
 obtain ⟨au, cu, hu⟩ := row_shape hOc
 obtain ⟨ae, ce, hue⟩ := row_shape hOe
 have hcn : (natI cl).length = n := by simp [natI, hCl.len]
 rw [hcn] at hu
 have hAg := hCl.again H1.out.2.2.2.2
 have hAc := hCl.acy H1.out.2.2.2.2
 obtain ⟨E, hEE⟩ : ∃ E, E = Sy.nf (btw cl es) := ⟨_, rfl⟩
 rw [← hEE] at hAg hOe hue
 obtain ⟨M, hM⟩ : ∃ M, M = E.length := ⟨_, rfl⟩
 rw [← hM] at hue
 subst hu
 subst hue
 obtain ⟨tg, htg⟩ : ∃ t : Nat, t = tog cl := ⟨_, rfl⟩
 obtain ⟨st, hst⟩ : ∃ z, z = sta n cl s := ⟨_, rfl⟩
 rw [← htg, ← hst] at hAg ⊢
 rw [← htg] at hAc
 have hsil : silF (fun i => Sy.steps (Sy.nf E) i) = sil tg (btw cl es) := by
  rw [silF_sil hAg.right, hEE]
  exact funext fun q => sil_nf tg (btw cl es) q
 have htn : tg ≤ 1000 := by have := (right_parts hAg.right).1.2; omega
 have hMl : M ≤ 10000 := by rw [hM]; exact (right_parts hAg.right).2.2.1
 have hpe := (right_parts hAg.right).2.2.2.2.2
 have hF : RowsOk tg fun i => Sy.steps (Sy.nf E) i := rowsOk_of (by omega) fun e he => ⟨(hpe e he).2.2.1, (hpe e he).2.2.2.1, (hpe e he).2.2.2.2.1⟩
 have hg2 := (hb2.block _ (t_lt H1.out.2.2.1)).trans H1.out.2.2.1
 have b2 := bel13 hb2 H1.out.2.1
 obtain ⟨w3, hw3⟩ : ∃ w3, w3 = w2.alloc (.cells #[.int .i64 (tg : Int), .int .i64 k, .int .i64 st, .slice ae M ce] 24) := ⟨_, rfl⟩
 have hb3 : Below w2.heap.size w2 w3 := by rw [hw3]; exact (Below.refl _ _).alloc (Nat.le_refl _) _
 have hg3 : w3.heap[w2.heap.size]? = some (.cells #[.int .i64 (tg : Int), .int .i64 k, .int .i64 st, .slice ae M ce] 24 (0, 0)) := by rw [hw3]; exact heap_alloc_new w2 _
 have hg23 := (hb3.block _ (t_lt hg2)).trans hg2
 have b3 := bel13 hb3 b2
 have hE3 := edge_up4 hOe hb3
 have hO := refOut_any tg k st (.slice ae M ce) E w3 (by omega) (own_hasE hE3) (by omega) fun e he => ⟨(hpe e he).1, (hpe e he).2.1⟩
 unfold sysV at hO
 have H3 : Hid _ := And.intro hw3 (And.intro b3 (And.intro hg3 (And.intro hg23 (And.intro hCl (And.intro (own_up4 hOc hb3) (And.intro hAc (And.intro hsil (And.intro hF (And.intro htg hO)))))))))
 clear hCl hOe hOc hb2 hM hcn x0 x1 x2 x3 hw3 hb3 b3 htg hst b2 hg2 hE3 hAg hO hEE hAc hsil hF hpe
 obtain ⟨x0, x1, x2, x3⟩ := four_cells hg23
 obtain ⟨t0, t1, t2, t3⟩ := four_cells hg3
 clear hg3 hg23
 go_upto_region 2 with fail
 rw [← H3.out.1]
 go_wp2_with fail
 refine Calls.mono H3.out.2.2.2.2.2.2.2.2.2.2 ?_
 rintro r w4 ⟨gr, us, rfl, hAr, hOr⟩
 have hRw := rowsAt_of hAr hOr
 have hb4 := hAr.bl
 have hgt4 := (hb4.block _ (t_lt H3.out.2.2.1)).trans H3.out.2.2.1
 have hgs4 := (hb4.block _ (t_lt H3.out.2.2.2.1)).trans H3.out.2.2.2.1
 have hOc4 := own_up4 H3.out.2.2.2.2.2.1 hb4
 have b4 := bel13 hb4 H3.out.2.1
 have hmk := makeB tg (by omega) w4
 have hA0 := arr_new 4 (.bool false) rfl tg w4
 obtain ⟨w5, hw5⟩ : ∃ w5, w5 = w4.alloc (.cells (madeV (.bool false) tg) 4) := ⟨_, rfl⟩
 rw [← hw5] at hmk hA0
 rw [bl_false] at hA0
 obtain ⟨gs, hgs⟩ : ∃ gs, gs = w4.heap.size := ⟨_, rfl⟩
 rw [← hgs] at hmk hA0
 have H4 : Hid _ := And.intro hRw (And.intro hgt4 (And.intro hgs4 (And.intro hOc4 (And.intro b4 hA0))))
 clear hAr hOr hRw hb4 hgt4 hgs4 hOc4 b4 hA0 hw5 hgs x0 x1 x2 x3 t0 t1 t2 t3
 obtain ⟨t0, t1, t2, t3⟩ := four_cells H4.out.2.1
 go_wp2_with fail
 clear hmk t0 t1 t2 t3
 go_loopg [7, 8] tg (fun q s7 s8 wx => ∃ od : List Nat, q = tg - od.length ∧ od.length ≤ tg ∧ s8 = .int .i64 od.length ∧ Grd tg (sil tg (btw cl es)) od ∧ Arr 4 w4 wx gs (bl tg fun x => decide (x ∈ od)) ∧ OwnI wx w4.heap.size s7 (od.flatMap (memI cl)))
 case atStart => exact ⟨[], rfl, Nat.zero_le _, rfl, .nil, by have h9 := H4.out.2.2.2.2.2; rw [bl_congr (v := fun x => decide (x ∈ ([] : List Nat))) (fun p _ => by simp)] at h9; exact h9, World.ownsRow_nil _ _ _ _⟩
 case round =>
  obtain ⟨od, rfl, hol, rfl, hG, hA, hOl⟩ := hrel
  obtain ⟨kk, hkk⟩ : ∃ kk, kk = od.length := ⟨_, rfl⟩
  rw [← hkk] at hol ⊢
  have hgt := (hA.bl.block _ (t_lt H4.out.2.1)).trans H4.out.2.1
  have hgsy := (hA.bl.block _ (t_lt H4.out.2.2.1)).trans H4.out.2.2.1
  obtain ⟨t0, t1, t2, t3⟩ := four_cells hgt
  by_cases hlt : kk < tg
  ·obtain ⟨z, hz⟩ := hG.some H3.out.2.2.2.2.2.2.1 (by omega)
   have p0 : (0 : Int) ≤ (kk : Int) := by omega
   have p1 : (kk : Int) < (tg : Int) := by omega
   have p6 : IntKind.i64.wrap ((kk : Int) + 1) = (kk : Int) + 1 := by rw [IntKind.wrap_i64]; omega
   obtain ⟨al, cl7, hul⟩ := row_shape hOl
   obtain ⟨N, hN⟩ : ∃ N, N = (od.flatMap (memI cl)).length := ⟨_, rfl⟩
   rw [← hN] at hul
   subst hul
   have hNl : N ≤ 1000000 := by
    have h1 := flat_len (fun x => memI_len cl x) od
    have h2 : od.length * cl.length ≤ 1000 * 1000 := Nat.mul_le_mul (by omega) (by have := H3.out.2.2.2.2.1.len; omega)
    omega
   have hst : ∀ y, y < tg → wr.cell? ⟨gs, y, none⟩ = some (.bool (decide (y ∈ od))) := fun y hy => hA.cell (bl_at _ hy)
   have hRw := H4.out.1.below hA.bl
   have hRy := fun (x : Nat) (u : Value) (hu : BSteps.Has wr u (Sy.steps (Sy.nf E) x)) => ready_any tg gs _ u od wr hu (H3.out.2.2.2.2.2.2.2.2.1.len x) (H3.out.2.2.2.2.2.2.2.2.1.tgt x) hst
   have hzt := hz.1
   have HA : Hid _ := And.intro hG (And.intro hA (And.intro hOl (And.intro hN (And.intro hkk (And.intro hgsy (And.intro hRw (And.intro hRy (And.intro hst hz))))))))
   clear hG hA hOl hN hkk hgsy hgt hRw hRy hst hz
   obtain ⟨wo, rfl⟩ : ∃ wo, wo = wr := ⟨_, rfl⟩
   go_wp2_with fail
   go_loopg [9] tg (fun q s9 wx => ∃ x : Nat, q = tg - x ∧ x ≤ z ∧ s9 = .int .i64 x ∧ wx = wo ∧ ∀ y, y < x → ¬ Rd tg (sil tg (btw cl es)) od y)
   case atStart => exact ⟨0, rfl, Nat.zero_le _, rfl, rfl, fun y hy => absurd hy (Nat.not_lt_zero y)⟩
   case round =>
    obtain ⟨x, rfl, hxz, rfl, hw, hno⟩ := hrel
    subst hw
    have hxt : x < tg := by omega
    have u0 := HA.out.2.2.2.2.2.2.2.2.1 x hxt
    have uf := HA.out.2.1.free x
    obtain ⟨ur, cr0, hur⟩ := HA.out.2.2.2.2.2.2.1 x hxt
    obtain ⟨ar, cr, hur2, -⟩ := id hur
    obtain ⟨R, hR⟩ : ∃ R, R = (Sy.steps (Sy.nf E) (x : Int)).length := ⟨_, rfl⟩
    rw [← hR] at hur2
    subst hur2
    have hRd := HA.out.2.2.2.2.2.2.2.1 x _ hur
    have q0 : (0 : Int) ≤ (x : Int) := by omega
    have q1 : (x : Int) < (tg : Int) := by omega
    have q6 : IntKind.i64.wrap ((x : Int) + 1) = (x : Int) + 1 := by rw [IntKind.wrap_i64]; omega
    by_cases hxo : x ∈ od
    ·simp only [hxo, decide_true] at u0
     have HB : Hid _ := And.intro hno (And.intro hxo HA.out.2.2.2.2.2.2.2.2.2)
     clear hno hxo hRd hur hR cr0
     have hxz2 : x < z := by
      rcases Nat.lt_or_ge x z with h | h
      ·exact h
      ·exact absurd (by rw [show z = x by omega]; exact HB.out.2.1) HB.out.2.2.2.1
     go_wp2_with fail
     go_roundg (tg - (x + 1))
     case measure => omega
     case rel => exact ⟨x + 1, rfl, by omega, by go_num, rfl, fun y hy => by
      by_cases e : y = x
      ·subst e; exact fun h => h.2.1 HB.out.2.1
      ·exact HB.out.1 y (by omega)⟩
    ·simp only [hxo, decide_false] at u0
     have hok := rd_ok (f := fun i => Sy.steps (Sy.nf E) i) (od := od) (fun e he => (H3.out.2.2.2.2.2.2.2.2.1.tgt x e he).1) hxt hxo
     rw [H3.out.2.2.2.2.2.2.2.1] at hok
     obtain ⟨bv, hbv⟩ : ∃ b, b = okB (Sy.steps (Sy.nf E) (x : Int)) od := ⟨_, rfl⟩
     rw [← hbv] at hok hRd
     have HB : Hid _ := And.intro hno (And.intro hok (And.intro hRd hxo))
     clear hno hok hRd hur hR hbv hxo
     cases bv with
     | false =>
       have hxz2 : x < z := by
        rcases Nat.lt_or_ge x z with h | h
        ·exact h
        ·have h9 := HB.out.2.1.2 (by rw [show x = z by omega]; exact HA.out.2.2.2.2.2.2.2.2.2)
         simp at h9
       go_wp2_with (go_at_call 38; refine Calls.mono HB.out.2.2.1 ?_; rintro r9 w9 ⟨rfl, hw9⟩; obtain rfl := hw9.symm; clear hw9)
       go_roundg (tg - (x + 1))
       case measure => omega
       case rel => exact ⟨x + 1, rfl, by omega, by go_num, rfl, fun y hy => by
        by_cases e : y = x
        ·subst e; exact fun h => by have h9 := HB.out.2.1.2 h; simp at h9
        ·exact HB.out.1 y (by omega)⟩
     | true =>
       have hRx := HB.out.2.1.1 rfl
       have hG2 := HA.out.1.snoc hRx HB.out.1
       have hA2 := HA.out.2.1.set x (.bool true)
       rw [fr_set] at hA2
       have hOl2 : OwnI (wr.setCell ⟨gs, x, none⟩ (.bool true)) w4.heap.size (.slice al N cl7) (od.flatMap (memI cl)) := by
        obtain ⟨cs9, hc9, -⟩ := HA.out.2.1.ids
        exact own_up HA.out.2.2.1 (Kept.setCell wr gs x (.bool true)) fun b hb e => own_bk HA.out.2.2.1 hc9 (by decide) (by rw [← e]; exact hb)
       obtain ⟨w6, hw6⟩ : ∃ w6, w6 = wr.setCell ⟨gs, x, none⟩ (.bool true) := ⟨_, rfl⟩
       rw [← hw6] at hA2 hOl2
       have HD : Hid _ := And.intro hG2 (And.intro hA2 (And.intro hOl2 hw6))
       clear hRx hG2 hA2 hOl2 hw6
       go_upto_region 12 with (go_at_call 38; refine Calls.mono HB.out.2.2.1 ?_; rintro r9 w9 ⟨rfl, hw9⟩; obtain rfl := hw9.symm; clear hw9)
       rw [← HD.out.2.2.2]
       clear t0 t1 t2 t3 u0 uf cr0
       go_wp2_with fail
       go_loopg [7, 10] n (fun q s7 s10 wx => ∃ i : Nat, q = n - i ∧ i ≤ n ∧ s10 = .int .i64 i ∧ Arr 4 w4 wx gs (bl tg fun y => decide (y ∈ od ++ [x])) ∧ OwnI wx w4.heap.size s7 (od.flatMap (memI cl) ++ memI (cl.take i) x))
       case atStart => exact ⟨0, rfl, Nat.zero_le _, rfl, HD.out.2.1, by have h9 := HD.out.2.2.1; rw [show od.flatMap (memI cl) = od.flatMap (memI cl) ++ memI (cl.take 0) x by simp [memI]] at h9; exact h9⟩
       case round =>
        obtain ⟨i, rfl, hi, rfl, hA, hOl⟩ := hrel
        obtain ⟨y0, y1, y2, y3⟩ := four_cells ((hA.bl.block _ (t_lt H4.out.2.2.1)).trans H4.out.2.2.1)
        by_cases hin : i < n
        ·obtain ⟨c, hc⟩ : ∃ c, cl[i]? = some c := ⟨cl[i]'(by have := H3.out.2.2.2.2.1.len; omega), List.getElem?_eq_getElem _⟩
         obtain ⟨gc, cc, hc1, d0⟩ := own_cell (own_up4 H4.out.2.2.2.1 hA.bl) (natI_at hc)
         simp only [Value.slice.injEq] at hc1
         obtain ⟨rfl, -, -⟩ := hc1
         have hnx := memI_next hc x
         have r0 : (0 : Int) ≤ (i : Int) := by omega
         have r1 : (i : Int) < (n : Int) := by omega
         have r6 : IntKind.i64.wrap ((i : Int) + 1) = (i : Int) + 1 := by rw [IntKind.wrap_i64]; omega
         by_cases hcx : c = x
         ·subst hcx
          rw [if_pos rfl] at hnx
          have o1 : ((c : Int) == (c : Int)) = true := by simp
          obtain ⟨al2, cl2, hu2⟩ := row_shape hOl
          obtain ⟨N2, hN2⟩ : ∃ N, N = (od.flatMap (memI cl) ++ memI (cl.take i) c).length := ⟨_, rfl⟩
          rw [← hN2] at hu2
          subst hu2
          have hN2l : N2 ≤ 1001000 := by
           rw [hN2, List.length_append, ← HA.out.2.2.2.1]
           have h1 := memI_len (cl.take i) c
           rw [List.length_take] at h1
           omega
          have hO2 : wr.ownsRow w4.heap.size 3 1 (.slice al2 N2 cl2) N2 (iC (od.flatMap (memI cl) ++ memI (cl.take i) c)) := by have h1 := hOl; unfold OwnI at h1; rw [← hN2] at h1; exact h1
          have hml : N2 + 1 ≤ maxLen := by unfold maxLen; omega
          have hby : (N2 + 1) * 8 ≤ 140737488355328 := by omega
          have hle : w4.heap.size ≤ (wr.alloc (.cells #[.int .i64 (i : Int)] 3)).heap.size := by have := hA.bl.size; rw [World.size_alloc]; omega
          have HE : Hid _ := And.intro hA (And.intro hO2 (And.intro hN2 hnx))
          clear hA hOl hO2 hN2 hnx hc
          go_wp2_with (at_builtin; refine wpList_append_own_at _ rfl _ _ 45 rfl w4.heap.size 3 i0 (.int .i64 0) 1 8 Tryz.underlying45 hi0 hz0 hz1 hz2 rfl (by decide) (.slice al2 N2 cl2) N2 (iC (od.flatMap (memI cl) ++ memI (cl.take i) c)) rfl (HE.out.2.1.alloc _) ⟨wr.heap.size, 0, none⟩ 1 1 [.int .i64 (i : Int)] rfl rfl (World.news_of_block (cs := #[.int .i64 (i : Int)]) (t := 3) (fr := (0, 0)) (heap_alloc_new wr _)) (by simp [Value.oneCell']) hml hby hle ?_; intro v5 w5' hO5 hg5 hnil5 hat5; have hk5 := grown_alloc hg5; have HX : Hid _ := And.intro hO5 hk5; clear hO5 hg5 hk5 hnil5 hat5)
          go_roundg (n - (i + 1))
          case measure => omega
          case rel =>
           refine ⟨i + 1, rfl, by omega, by go_num, HE.out.1.kept HX.out.2 fun b hb => ⟨(HE.out.2.1.lt b hb).1, fun e => ?_⟩, ?_⟩
           ·obtain ⟨cs9, hc9, -⟩ := HE.out.1.ids
            exact own_bk HE.out.2.1 hc9 (by decide) (by rw [← e]; exact hb)
           ·rw [← HE.out.2.2.2, ← List.append_assoc]
            unfold OwnI
            rw [List.length_append, List.length_singleton, ← HE.out.2.2.1, iC_snoc]
            exact HX.out.1
         ·rw [if_neg fun e => hcx e.symm] at hnx
          have o1 : ((c : Int) == (x : Int)) = false := by simp; omega
          have o2 : ¬ (c : Int) = (x : Int) := by omega
          rw [hnx] at hOl
          have HE : Hid _ := And.intro hA hOl
          clear hA hOl hnx hc hcx
          go_wp2_with fail
          go_roundg (n - (i + 1))
          case measure => omega
          case rel => exact ⟨i + 1, rfl, by omega, by go_num, HE.out.1, HE.out.2⟩
        ·obtain rfl : n = i := by omega
         have r1 : ¬ (n : Int) < (n : Int) := by omega
         rw [List.take_of_length_le (by have := H3.out.2.2.2.2.1.len; omega)] at hOl
         have HE : Hid _ := And.intro hA hOl
         clear hA hOl hi hin
         go_wp2_with fail
         go_roundg (tg - (od ++ [x]).length)
         case measure => have := HA.out.2.2.2.2.1; rw [List.length_append, List.length_singleton]; omega
         case rel =>
          have hk9 := HA.out.2.2.2.2.1
          exact ⟨od ++ [x], rfl, by rw [List.length_append, List.length_singleton]; omega, by rw [List.length_append, List.length_singleton, ← hk9]; go_num, HD.out.1, HE.out.1, by rw [List.flatMap_append]; simpa using HE.out.2⟩
  ·have hkt : od.length = tg := by omega
   obtain rfl : tg = kk := by omega
   have p1 : ¬ (tg : Int) < (tg : Int) := by omega
   have hno : ∀ x, ¬ Rd tg (sil tg (btw cl es)) od x := fun x hx => by
    have h1 := nodup_sub (x :: od) (List.range tg) (List.nodup_cons.2 ⟨hx.2.1, hG.nodup⟩) fun y hy => by
     rcases List.mem_cons.1 hy with rfl | hy
     ·exact List.mem_range.2 hx.1
     ·exact List.mem_range.2 (hG.lt y hy)
    rw [List.length_range, List.length_cons] at h1
    omega
   have HA : Hid _ := And.intro hG (And.intro hA (And.intro hOl hno))
   clear hG hA hOl hno hgt hgsy hlt hkt hol hkk
   go_wp2_with fail
   go_ret
   have b5 := H4.out.2.2.2.2.1.trans (HA.out.2.1.bl.mono H4.out.2.2.2.2.1.size)
   refine ⟨_, rfl, cl, H3.out.2.2.2.2.1, od, ?_, ?_, own_lower HA.out.2.2.1 H4.out.2.2.2.2.1.size, b5⟩
   ·rw [← H3.out.2.2.2.2.2.2.2.2.2.1]; exact HA.out.1
   ·rw [← H3.out.2.2.2.2.2.2.2.2.2.1]; exact HA.out.2.2.2
end Go.Proofs.YtplofbabfkkimaaGreatDoor.Ts
/- tauscc: Order of what is no system. -/
namespace Go.Proofs.YtplofbabfkkimaaGreatDoor.Ts
open Go.RowKit Go.Maps
attribute [local go_sem ↓] Go.wp_at_zero Go.wp_at_succ
set_option linter.unusedSimpArgs false in
set_option maxRecDepth 100000 in
set_option maxHeartbeats 4000000 in
theorem order_bad {M : Nat} (hS : SortOk M) (n k s : Int) (v : Value) (es : List Sy.Ed) (a : Addr) (w : World) (hA : Sent w 13 a) (hv : BEdges.Has w v es) (hM : es.length ≤ M) (hm : es.length ≤ 100000) (hq : Sy.right n k s es = false) :
 Calls Tryz.prog 10 #[sysV n k s v] w fun r w' => ∃ b, r = .returned (.tuple #[.slice none 0 0, .iface 74 (.pointer (some ⟨b, 0, none⟩))]) ∧ Chain w' 0 0 a [tauB, sysB] (.iface 74 (.pointer (some ⟨b, 0, none⟩))) ∧ Below w.heap.size w w' := by
 have hb1 := fun o => (Below.refl w.heap.size w).alloc (Nat.le_refl _) o
 have hN := fun o => collapsed_bad hS n k s v es a (w.alloc o) (hA.below (hb1 o)) (hv.below (hb1 o)) hM hm hq
 have H : Hid _ := And.intro hN hb1
 clear hN hb1 hA hv hM hm hq
 unfold sysV at H ⊢
 go_enter Tryz.func10, Tryz.ntmps10
 go_wp2_with (first | (go_at_call 26; refine Calls.mono (H.out.1 _) ?_; rintro r1 w1 ⟨x, rfl, hx, hb⟩; obtain ⟨T, ad, rfl⟩ := hx.iface; have HX : Hid _ := And.intro hx hb; clear hx hb) | (go_at_call 24; refine Calls.mono (tfault_any _ _ _ a [sysB] HX.out.1) ?_; rintro r3 w3 ⟨b, rfl, hC3, hb3⟩; have H3 : Hid _ := And.intro hC3 hb3; clear hC3 hb3))
 go_ret2
 have h1 := (H.out.2 _).trans (HX.out.2.mono (H.out.2 _).size)
 exact ⟨b, rfl, H3.out.1, h1.trans (H3.out.2.mono h1.size)⟩
end Go.Proofs.YtplofbabfkkimaaGreatDoor.Ts
/- Contracts of what the document tells of a system that is none, and of the law's Light. -/
namespace Go.Proofs.YtplofbabfkkimaaGreatDoor
open Go.RowKit Go.Maps
attribute [local go_sem ↓] Go.wp_at_zero Go.wp_at_succ
theorem bel6t {w W w8 : World} (hb : Below W.heap.size W w8) (h : Below w.heap.size w W) : Below w.heap.size w w8 := h.trans (hb.mono h.size)
theorem res_up6t {W w8 : World} {b : Nat} {o : Obj} (hb : Below W.heap.size W w8) (h : W.heap[b]? = some o) : w8.heap[b]? = some o := (hb.block b (t_lt h)).trans h
def tauB1 : ByteArray := ⟨#[116, 97, 117, 115, 99, 99, 32]⟩
def tauB2 : ByteArray := ⟨#[116, 97, 117, 115, 99, 99, 32, 115, 121, 115, 116, 101, 109, 32]⟩
theorem tau_join2 : joinS ⟨#[]⟩ [Ts.tauB, sysB] = tauB2 := by decide
def hndTau (ok : Bool) : Value := if ok then .agg #[.int .i64 0, .int .i64 0, .int .i64 0, .string ⟨#[]⟩] else .agg #[.int .i64 14, .int .i64 0, .int .i64 0, .string tauB2]
set_option maxRecDepth 100000 in
set_option maxHeartbeats 2000000 in
theorem on_tau (ok : Bool) (w : World) : Calls Tryz.prog 21 #[.string ⟨#[116, 97, 117, 115, 99, 99]⟩, chkV ok] w fun e w' => e = .returned (hndTau ok) ∧ Below w.heap.size w w' := by
 cases ok with
 | true =>
   show Calls Tryz.prog 21 #[.string ⟨#[116, 97, 117, 115, 99, 99]⟩, .agg #[.int .i64 0, .int .i64 0, .int .i64 0, .string ⟨#[]⟩]] w fun e w' => e = .returned (.agg #[.int .i64 0, .int .i64 0, .int .i64 0, .string ⟨#[]⟩]) ∧ Below w.heap.size w w'
   go_enter Tryz.func21, Tryz.ntmps21
   go_wp2
   refine bodyPost_ret (v := .agg #[.int .i64 0, .int .i64 0, .int .i64 0, .string ⟨#[]⟩]) (by simp [results, Tryz.results21, go_sem]) rfl ⟨rfl, ?_⟩
   first
    | exact ((Below.refl _ _).alloc (Nat.le_refl _) _).alloc (by simp) _
    | exact four_below (((Below.refl _ _).alloc (Nat.le_refl _) _).alloc (by simp) _) (by simp) _ _ _ _
 | false =>
   have zs : (⟨#[116, 97, 117, 115, 99, 99]⟩ ++ ⟨#[32]⟩ : ByteArray) = tauB1 := by decide
   have zt : tauB1 ++ sysB1 = tauB2 := by decide
   show Calls Tryz.prog 21 #[.string ⟨#[116, 97, 117, 115, 99, 99]⟩, .agg #[.int .i64 14, .int .i64 0, .int .i64 0, .string sysB1]] w fun e w' => e = .returned (.agg #[.int .i64 14, .int .i64 0, .int .i64 0, .string tauB2]) ∧ Below w.heap.size w w'
   go_enter Tryz.func21, Tryz.ntmps21
   go_wp2
   refine bodyPost_ret (v := .agg #[.int .i64 14, .int .i64 0, .int .i64 0, .string tauB2]) (by simp [results, Tryz.results21, go_sem]) rfl ⟨rfl, ?_⟩
   first
    | exact ((Below.refl _ _).alloc (Nat.le_refl _) _).alloc (by simp) _
    | exact (((Below.refl _ _).alloc (Nat.le_refl _) _).alloc (by simp) _).setCell (by simp) _
    | exact four_below (((((Below.refl _ _).alloc (Nat.le_refl _) _).alloc (by simp) _)).setCell (by simp) _) (by simp) _ _ _ _
set_option maxRecDepth 100000 in
set_option maxHeartbeats 2000000 in
theorem handed_tau (n k s : Int) (v : Value) (es : List Sy.Ed) (w : World) (hv : BEdges.Has w v es) :
 Calls Tryz.prog 7 #[.string ⟨#[116, 97, 117, 115, 99, 99]⟩, sysV n k s v] w fun e w' => e = .returned (hndTau (Sy.right n k s es)) ∧ Below w.heap.size w w' := by
 obtain ⟨w1, hw1⟩ : ∃ w1, w1 = (w.alloc (.cells #[.int .i64 n, .int .i64 k, .int .i64 s, v] 24)).alloc (.cells #[.int .i64 0, .int .i64 0, .int .i64 0, .string ⟨#[]⟩] 29) := ⟨_, rfl⟩
 have hb1 : Below w.heap.size w w1 := by rw [hw1]; exact ((Below.refl _ _).alloc (Nat.le_refl _) _).alloc (by simp) _
 have hR := refCheck_any n k s v es w1 (hv.below hb1)
 have hg : w1.heap[w.heap.size + 1]? = some (.cells #[.int .i64 0, .int .i64 0, .int .i64 0, .string ⟨#[]⟩] 29 (0, 0)) := by rw [hw1]; exact two_alloc w _ _
 obtain ⟨ok, hok⟩ : ∃ ok, ok = Sy.right n k s es := ⟨_, rfl⟩
 rw [← hok] at hR ⊢
 have H1 : Hid _ := And.intro hR (And.intro hb1 (And.intro hg hw1))
 obtain ⟨ao, cap, rfl, _⟩ := hv
 clear hR hb1 hg hw1 hok
 unfold sysV at H1 ⊢
 go_enter Tryz.func7, Tryz.ntmps7
 go_wp2_with fail
 rw [← H1.out.2.2.2]
 refine Calls.mono H1.out.1 ?_
 rintro e w2 ⟨rfl, hb2⟩
 have H2 : Hid (Below w1.heap.size w1 w2) := hb2
 clear hb2
 go_wp2_with fail
 refine Calls.mono (on_tau ok w2) ?_
 rintro e w3 ⟨rfl, hb3⟩
 have hb13 := bel6t hb3 H2.out
 have hg2 := (hb13.block _ (t_lt H1.out.2.2.1)).trans H1.out.2.2.1
 obtain ⟨y0, y1, y2, y3⟩ := four_cells hg2
 have z0 := blk_free hg2 0
 have z1 := blk_free hg2 1
 have z2 := blk_free hg2 2
 have z3 := blk_free hg2 3
 have H3 : Hid _ := And.intro (bel6t hb13 H1.out.2.1) hg2
 clear hb3 hb13 hg2
 cases ok with
 | true =>
   rw [show hndTau true = .agg #[.int .i64 0, .int .i64 0, .int .i64 0, .string ⟨#[]⟩] from rfl]
   go_wp2_with fail
   have hgf := four_set (a0 := .int .i64 0) (a1 := .int .i64 0) (a2 := .int .i64 0) (a3 := .string ⟨#[]⟩) H3.out.2
   have hbf := four_below H3.out.1 (b := w.heap.size + 1) (by omega) (.int .i64 0) (.int .i64 0) (.int .i64 0) (.string ⟨#[]⟩)
   generalize ((((w3.setCell ⟨w.heap.size + 1, 0, none⟩ (.int .i64 0)).setCell ⟨w.heap.size + 1, 1, none⟩ (.int .i64 0)).setCell ⟨w.heap.size + 1, 2, none⟩ (.int .i64 0)).setCell ⟨w.heap.size + 1, 3, none⟩ (.string ⟨#[]⟩)) = wf at hgf hbf ⊢
   obtain ⟨c0, c1, c2, c3⟩ := four_cells hgf
   exact bodyPost_ret (v := .agg #[.int .i64 0, .int .i64 0, .int .i64 0, .string ⟨#[]⟩]) (by simp [results, Tryz.results7, go_sem, c0, c1, c2, c3]) rfl ⟨rfl, hbf⟩
 | false =>
   rw [show hndTau false = .agg #[.int .i64 14, .int .i64 0, .int .i64 0, .string tauB2] from rfl]
   go_wp2_with fail
   have hgf := four_set (a0 := .int .i64 14) (a1 := .int .i64 0) (a2 := .int .i64 0) (a3 := .string tauB2) H3.out.2
   have hbf := four_below H3.out.1 (b := w.heap.size + 1) (by omega) (.int .i64 14) (.int .i64 0) (.int .i64 0) (.string tauB2)
   generalize ((((w3.setCell ⟨w.heap.size + 1, 0, none⟩ (.int .i64 14)).setCell ⟨w.heap.size + 1, 1, none⟩ (.int .i64 0)).setCell ⟨w.heap.size + 1, 2, none⟩ (.int .i64 0)).setCell ⟨w.heap.size + 1, 3, none⟩ (.string tauB2)) = wf at hgf hbf ⊢
   obtain ⟨c0, c1, c2, c3⟩ := four_cells hgf
   exact bodyPost_ret (v := .agg #[.int .i64 14, .int .i64 0, .int .i64 0, .string tauB2]) (by simp [results, Tryz.results7, go_sem, c0, c1, c2, c3]) rfl ⟨rfl, hbf⟩
def lightB (n : Int) (m : Nat) (ok : Bool) : Bool := decide (n ≤ 200) && decide (m ≤ 1500) || !ok && decide (m ≤ 11000)
set_option maxRecDepth 100000 in
set_option maxHeartbeats 2000000 in
theorem light_any (n k s : Int) (v : Value) (es : List Sy.Ed) (w : World) (hv : BEdges.Has w v es) :
 Calls Tryz.prog 4 #[sysV n k s v] w fun e w' => e = .returned (.bool (lightB n es.length (Sy.right n k s es))) ∧ Below w.heap.size w w' := by
 obtain ⟨w1, hw1⟩ : ∃ w1, w1 = w.alloc (.cells #[.int .i64 n, .int .i64 k, .int .i64 s, v] 24) := ⟨_, rfl⟩
 have hb1 : Below w.heap.size w w1 := by rw [hw1]; exact (Below.refl _ _).alloc (Nat.le_refl _) _
 have hg1 : w1.heap[w.heap.size]? = some (.cells #[.int .i64 n, .int .i64 k, .int .i64 s, v] 24 (0, 0)) := by rw [hw1]; exact heap_alloc_new w _
 have hR := right_any n k s v es w1 (hv.below hb1)
 obtain ⟨ok, hok⟩ : ∃ ok, ok = Sy.right n k s es := ⟨_, rfl⟩
 obtain ⟨m, hm⟩ : ∃ m, m = es.length := ⟨_, rfl⟩
 obtain ⟨ao, cap, rfl, _⟩ := hv
 rw [← hok] at hR ⊢
 rw [← hm] at hR hw1 hg1 ⊢
 have H1 : Hid _ := And.intro hR (And.intro hb1 (And.intro hw1 hg1))
 obtain ⟨x0, x1, x2, x3⟩ := four_cells hg1
 clear hR hb1 hw1 hok hm hg1
 unfold sysV at H1 ⊢
 by_cases h1 : n ≤ 200
 ·by_cases h2 : m ≤ 1500
  ·have e1 : decide (n ≤ 200) = true := decide_eq_true h1
   have e2 : decide (m ≤ 1500) = true := decide_eq_true h2
   have e3 : decide ((m : Int) ≤ 1500) = true := by simp; omega
   have e4 : lightB n m ok = true := by unfold lightB; rw [e1, e2]; rfl
   rw [e4]
   clear h1 h2 e4
   go_enter Tryz.func4, Tryz.ntmps4
   go_upto_region 1 with fail
   rw [← H1.out.2.2.1]
   go_wp2_with fail
   go_ret
   exact ⟨rfl, H1.out.2.1⟩
  ·have e1 : decide (n ≤ 200) = true := decide_eq_true h1
   have e2 : decide (m ≤ 1500) = false := decide_eq_false h2
   have e3 : decide ((m : Int) ≤ 1500) = false := by simp; omega
   cases ok with
   | true =>
     have e4 : lightB n m true = false := by unfold lightB; rw [e1, e2]; rfl
     rw [e4]
     clear h1 h2 e4
     go_enter Tryz.func4, Tryz.ntmps4
     go_upto_region 1 with fail
     rw [← H1.out.2.2.1]
     go_wp2_with fail
     refine Calls.mono H1.out.1 ?_
     rintro r w2 ⟨rfl, hb2⟩
     have HB : Hid (Below w1.heap.size w1 w2) := hb2
     clear hb2
     go_wp2_with fail
     go_ret
     exact ⟨rfl, bel6t HB.out H1.out.2.1⟩
   | false =>
     have e4 : lightB n m false = decide ((m : Int) ≤ 11000) := by unfold lightB; rw [e1, e2]; simp; omega
     rw [e4]
     clear h1 h2 e4
     go_enter Tryz.func4, Tryz.ntmps4
     go_upto_region 1 with fail
     rw [← H1.out.2.2.1]
     go_wp2_with fail
     refine Calls.mono H1.out.1 ?_
     rintro r w2 ⟨rfl, hb2⟩
     obtain ⟨y0, y1, y2, y3⟩ := four_cells (res_up6t hb2 H1.out.2.2.2)
     have HB : Hid (Below w1.heap.size w1 w2) := hb2
     clear hb2
     go_wp2_with fail
     go_ret
     exact ⟨rfl, bel6t HB.out H1.out.2.1⟩
 ·have e1 : decide (n ≤ 200) = false := decide_eq_false h1
  have e2 : decide (m ≤ 1500) = decide (m ≤ 1500) := rfl
  have h2 : True := trivial
  cases ok with
  | true =>
    have e4 : lightB n m true = false := by unfold lightB; rw [e1]; simp
    rw [e4]
    clear h1 h2 e4
    go_enter Tryz.func4, Tryz.ntmps4
    go_upto_region 1 with fail
    rw [← H1.out.2.2.1]
    go_wp2_with fail
    refine Calls.mono H1.out.1 ?_
    rintro r w2 ⟨rfl, hb2⟩
    have HB : Hid (Below w1.heap.size w1 w2) := hb2
    clear hb2
    go_wp2_with fail
    go_ret
    exact ⟨rfl, bel6t HB.out H1.out.2.1⟩
  | false =>
    have e4 : lightB n m false = decide ((m : Int) ≤ 11000) := by unfold lightB; rw [e1]; simp; omega
    rw [e4]
    clear h1 h2 e4
    go_enter Tryz.func4, Tryz.ntmps4
    go_upto_region 1 with fail
    rw [← H1.out.2.2.1]
    go_wp2_with fail
    refine Calls.mono H1.out.1 ?_
    rintro r w2 ⟨rfl, hb2⟩
    obtain ⟨y0, y1, y2, y3⟩ := four_cells (res_up6t hb2 H1.out.2.2.2)
    have HB : Hid (Below w1.heap.size w1 w2) := hb2
    clear hb2
    go_wp2_with fail
    go_ret
    exact ⟨rfl, bel6t HB.out H1.out.2.1⟩
end Go.Proofs.YtplofbabfkkimaaGreatDoor
/- The book's marks for lists of numbers. -/
namespace Go.Proofs.YtplofbabfkkimaaGreatDoor
open Go.RowKit Go.Maps
attribute [local go_sem ↓] Go.wp_at_zero Go.wp_at_succ
def mk1 (i k : Nat) : Int := -1000000 * (i : Int) - (k : Int) - 7
def marks (i f n : Nat) : List Int := (List.range n).map fun k => mk1 i (f + k)
theorem marks_len (i f n : Nat) : (marks i f n).length = n := by simp [marks]
theorem marks_succ (i f n : Nat) : marks i f (n + 1) = marks i f n ++ [mk1 i (f + n)] := by
 unfold marks
 rw [List.range_succ, List.map_append]
 rfl
theorem marks_add (i f n m : Nat) : marks i f n ++ marks i (f + n) m = marks i f (n + m) := by
 induction m with
 | zero => simp [marks]
 | succ m ih => rw [marks_succ, ← List.append_assoc, ih, Nat.add_assoc, ← marks_succ]; rfl
theorem marks_at {i f n j : Nat} (h : j < n) : (marks i f n)[j]? = some (mk1 i (f + j)) := by
 unfold marks
 rw [List.getElem?_map, List.getElem?_range h]
 rfl
set_option maxRecDepth 100000 in
set_option maxHeartbeats 4000000 in
theorem mark_any (i f n : Nat) (w : World) (hi : i ≤ 1000) (hf : f + n ≤ 1000000000) :
 Calls Tryz.prog 114 #[.int .i64 i, .int .i64 f, .int .i64 n] w fun r w' => ∃ v, r = .returned v ∧ OwnI w' w.heap.size v (marks i f n) ∧ Below w.heap.size w w' := by
 obtain ⟨i0, hi0, hz0, hz1, hz2⟩ := info_parts Tryz.infoI3
 have e1 : IntKind.i64.wrap ((f : Int) + (n : Int)) = (f : Int) + (n : Int) := by rw [IntKind.wrap_i64]; omega
 go_enter Tryz.func114, Tryz.ntmps114
 go_wp2_with fail
 go_loopg [7, 8] n (fun q lv kv wr => ∃ (k : Nat), q = n - k ∧ k ≤ n ∧ kv = .int .i64 ((f : Int) + (k : Int)) ∧ OwnI wr w.heap.size lv (marks i f k) ∧ Below w.heap.size w wr)
 case atStart => exact ⟨0, rfl, Nat.zero_le _, by simp, World.ownsRow_nil _ _ _ _, Below.refl _ _⟩
 case round =>
  obtain ⟨k, rfl, hk, rfl, hO, hb⟩ := hrel
  by_cases hlt : k < n
  ·have q1 : (f : Int) + (k : Int) < (f : Int) + (n : Int) := by omega
   obtain ⟨al, cl, rfl⟩ := row_shape hO
   have hO' : wr.ownsRow w.heap.size 3 1 (.slice al k cl) k (iC (marks i f k)) := by have h1 := hO; unfold OwnI at h1; rw [marks_len] at h1; exact h1
   have hlk : (marks i f k).length = k := marks_len i f k
   rw [hlk]
   have hml : k + 1 ≤ maxLen := by unfold maxLen; omega
   have hby : (k + 1) * 8 ≤ 140737488355328 := by omega
   have w1 : IntKind.i64.wrap (-1000000 * (i : Int)) = -1000000 * (i : Int) := by rw [IntKind.wrap_i64]; omega
   have w2 : IntKind.i64.wrap (-1000000 * (i : Int) - ((f : Int) + (k : Int))) = -1000000 * (i : Int) - ((f : Int) + (k : Int)) := by rw [IntKind.wrap_i64]; omega
   have w3 : IntKind.i64.wrap (-1000000 * (i : Int) - ((f : Int) + (k : Int)) - 7) = -1000000 * (i : Int) - ((f : Int) + (k : Int)) - 7 := by rw [IntKind.wrap_i64]; omega
   have hle : w.heap.size ≤ (wr.alloc (.cells #[.int .i64 (-1000000 * (i : Int) - ((f : Int) + (k : Int)) - 7)] 3)).heap.size := by have := hb.size; simp; omega
   have HO : Hid _ := And.intro hO' hb
   clear hO hO' hlk
   go_wp2_with (at_builtin; refine wpList_append_own_at _ rfl _ _ 45 rfl w.heap.size 3 i0 (.int .i64 0) 1 8 Tryz.underlying45 hi0 hz0 hz1 hz2 rfl (by decide) (.slice al k cl) k (iC (marks i f k)) rfl (HO.out.1.alloc _) ⟨wr.heap.size, 0, none⟩ 1 1 [.int .i64 (-1000000 * (i : Int) - ((f : Int) + (k : Int)) - 7)] rfl rfl (World.news_of_block (cs := #[.int .i64 (-1000000 * (i : Int) - ((f : Int) + (k : Int)) - 7)]) (t := 3) (fr := (0, 0)) (heap_alloc_new wr _)) (one_one _) hml hby hle ?_; intro v2 w2 hown2 hgrow2 hnil2 hat2; have H2 : Hid _ := And.intro hown2 hgrow2; clear hown2 hgrow2 hnil2 hat2)
   have HM : Hid (mk1 i (f + k) = -1000000 * (i : Int) - ((f : Int) + (k : Int)) - 7) := (by unfold mk1; omega : mk1 i (f + k) = -1000000 * (i : Int) - ((f : Int) + (k : Int)) - 7)
   go_roundg (n - (k + 1))
   case measure => omega
   case rel => exact ⟨k + 1, rfl, by omega, by first | go_num | (congr 1; omega), by unfold OwnI; rw [marks_len, marks_succ, iC_snoc, HM.out]; exact H2.out.1, lines_belowI HO.out.1 HO.out.2 H2.out.2⟩
  ·obtain rfl : k = n := by omega
   have q1 : ¬ (f : Int) + (k : Int) < (f : Int) + (k : Int) := by omega
   have HO : Hid _ := And.intro hO hb
   clear hO hb
   go_wp2_with fail
   go_ret
   exact ⟨_, rfl, HO.out.1, HO.out.2⟩
end Go.Proofs.YtplofbabfkkimaaGreatDoor
/- The book with lists of numbers alone: what it holds in memory. -/
namespace Go.Proofs.YtplofbabfkkimaaGreatDoor
open Go.RowKit Go.Maps
structure Apt (bk : Nat) (vi : Value) (ls : List Value) : Prop where
 b : ∀ l ∈ ls, l.ownBlock ≠ some bk
 r : ∀ l ∈ ls, ∀ k, l.ownBlock = some k → vi.ownBlock ≠ some k
 rb : vi.ownBlock ≠ some bk
 p : ∀ (i j : Nat) (l m : Value), ls[i]? = some l → ls[j]? = some m → i ≠ j → ∀ k, l.ownBlock = some k → m.ownBlock ≠ some k
structure Bp (w : World) (bk : Nat) (vi : Value) (ls : List Value) (zss : List (List Int)) : Prop where
 c0 : w.cell? ⟨bk, 0, none⟩ = some vi
 ri : w.ownsRow 0 45 1 vi zss.length ls
 li : ∀ (k : Nat) (l : Value) (zs : List Int), ls[k]? = some l → zss[k]? = some zs → OwnI w 0 l zs
 ap : Apt bk vi ls
 len : zss.length ≤ 400
 sz : ∀ zs ∈ zss, zs.length ≤ 1000000
theorem Bp.ll {w : World} {bk : Nat} {vi : Value} {ls : List Value} {zss : List (List Int)} (h : Bp w bk vi ls zss) : ls.length = zss.length := by
 have := h.ri.1
 rw [Nat.mul_one] at this
 exact this
theorem Bp.below {w w' : World} {bk : Nat} {vi : Value} {ls : List Value} {zss : List (List Int)} (h : Bp w bk vi ls zss) (hb : Below w.heap.size w w') : Bp w' bk vi ls zss :=
 ⟨cell_up h.c0 hb, trow_at h.ri fun i hi => hb.block i (h.ri.lt i hi).2, fun k l zs h1 h2 => trow_at (h.li k l zs h1 h2) fun i hi => hb.block i ((h.li k l zs h1 h2).lt i hi).2, h.ap, h.len, h.sz⟩
theorem Bp.at {w : World} {bk : Nat} {vi : Value} {ls : List Value} {zss : List (List Int)} (h : Bp w bk vi ls zss) {i : Nat} {zs : List Int} (hi : zss[i]? = some zs) : ∃ gi ci l, vi = .slice (some ⟨gi, 0, none⟩) zss.length ci ∧ ls[i]? = some l ∧ w.cell? ⟨gi, i, none⟩ = some l ∧ OwnI w 0 l zs := by
 have hlt := (List.getElem?_eq_some_iff.1 hi).1
 obtain ⟨gi, ci, hv, _, _⟩ := h.ri.form (by omega)
 obtain ⟨l, hl⟩ : ∃ l, ls[i]? = some l := ⟨ls[i]'(by rw [h.ll]; exact hlt), List.getElem?_eq_getElem _⟩
 refine ⟨gi, ci, l, hv, hl, ?_, h.li i l zs hl hi⟩
 have hr := h.ri
 rw [hv] at hr
 rw [hr.cellAt i (by omega), hl]
theorem Bp.set {w : World} {bk : Nat} {vi : Value} {ls : List Value} {zss : List (List Int)} (h : Bp w bk vi ls zss) {i : Nat} {zs : List Int} {g n c : Nat} (hi : zss[i]? = some zs) (hl : ls[i]? = some (.slice (some ⟨g, 0, none⟩) n c)) (k : Nat) (x : Int) : Bp (w.setCell ⟨g, k, none⟩ (.int .i64 x)) bk vi ls (zss.set i (zs.set k x)) := by
 have hlm := List.mem_of_getElem? hl
 have hbk : bk ≠ g := fun e => h.ap.b _ hlm (by rw [e]; rfl)
 have hcell : ∀ o, (w.setCell ⟨g, k, none⟩ (.int .i64 x)).cell? ⟨bk, o, none⟩ = w.cell? ⟨bk, o, none⟩ := fun o => World.cell?_of_block (set_other _ _ _ _ _ hbk)
 have hO := h.li i _ zs hl hi
 refine ⟨by rw [hcell]; exact h.c0, ?_, fun q l ys h1 h2 => ?_, h.ap, by rw [List.length_set]; exact h.len, fun ys hy => ?_⟩
 ·rw [List.length_set]
  exact trow_at h.ri fun j hj => set_other _ _ _ _ _ fun e => h.ap.r _ hlm g rfl (by rw [← e]; exact hj)
 ·by_cases hq : q = i
  ·subst hq
   rw [hl] at h1
   have e1 := Option.some.inj h1
   rw [List.getElem?_set_self (List.getElem?_eq_some_iff.1 hi).1] at h2
   have e2 := Option.some.inj h2
   subst e1; subst e2
   rcases hO.2 with ⟨e, _⟩ | ⟨g', cap', cur, e, hg, hb, hc, hm, hs, htk⟩
   ·cases e
   injection e with e1 e2 e3
   have e4 := Option.some.inj e1
   injection e4 with e5
   subst e5; subst e3
   refine ⟨by simp [iC], .inr ⟨g, c, cur.setIfInBounds k (.int .i64 x), by rw [List.length_set, e2], hg, heap_setCell_same w g k cur _ _ hb, by rw [List.length_set]; exact hc, hm, by simpa using hs, ?_⟩⟩
   rw [Array.toList_setIfInBounds, List.length_set, List.take_set, htk]
   unfold iC
   rw [List.map_set]
  ·rw [List.getElem?_set_ne (fun e => hq e.symm)] at h2
   refine trow_at (h.li q l ys h1 h2) fun j hj => set_other _ _ _ _ _ fun e => ?_
   exact h.ap.p i q _ l hl h1 (fun e' => hq e'.symm) g rfl (by rw [← e]; exact hj)
 ·rcases List.mem_or_eq_of_mem_set hy with hm | rfl
  ·exact h.sz ys hm
  ·rw [List.length_set]; exact h.sz zs (List.mem_of_getElem? hi)
structure Bs (w : World) (bk : Nat) (vi vw : Value) (ls ws : List Value) (zss : List (List Int)) : Prop where
 p : Bp w bk vi ls zss
 c1 : w.cell? ⟨bk, 1, none⟩ = some vw
 rw : w.ownsRow 0 45 1 vw zss.length ws
 lw : ∀ (k : Nat) (l : Value) (zs : List Int), ws[k]? = some l → zss[k]? = some zs → OwnI w 0 l zs
 bt : ∃ cs, w.heap[bk]? = some (.cells cs 44 (0, 0)) ∧ cs.size = 22
 ne : ∀ k, vi.ownBlock = some k → vw.ownBlock ≠ some k
theorem Bs.below {w w' : World} {bk : Nat} {vi vw : Value} {ls ws : List Value} {zss : List (List Int)} (h : Bs w bk vi vw ls ws zss) (hb : Below w.heap.size w w') : Bs w' bk vi vw ls ws zss :=
 ⟨h.p.below hb, cell_up h.c1 hb, trow_at h.rw fun i hi => hb.block i (h.rw.lt i hi).2, fun k l zs h1 h2 => trow_at (h.lw k l zs h1 h2) fun i hi => hb.block i ((h.lw k l zs h1 h2).lt i hi).2, h.bt.imp fun _ hx => ⟨(hb.block bk (t_lt hx.1)).trans hx.1, hx.2⟩, h.ne⟩
theorem Bs.at {w : World} {bk : Nat} {vi vw : Value} {ls ws : List Value} {zss : List (List Int)} (h : Bs w bk vi vw ls ws zss) {i : Nat} {zs : List Int} (hi : zss[i]? = some zs) : ∃ gw cw l, vw = .slice (some ⟨gw, 0, none⟩) zss.length cw ∧ w.cell? ⟨gw, i, none⟩ = some l ∧ OwnI w 0 l zs := by
 have hlt := (List.getElem?_eq_some_iff.1 hi).1
 obtain ⟨gw, cw, hv, _, _⟩ := h.rw.form (by omega)
 have hwl : ws.length = zss.length := by have := h.rw.1; rw [Nat.mul_one] at this; exact this
 obtain ⟨l, hl⟩ : ∃ l, ws[i]? = some l := ⟨ws[i]'(by rw [hwl]; exact hlt), List.getElem?_eq_getElem _⟩
 refine ⟨gw, cw, l, hv, ?_, h.lw i l zs hl hi⟩
 have hr := h.rw
 rw [hv] at hr
 rw [hr.cellAt i (by omega), hl]
end Go.Proofs.YtplofbabfkkimaaGreatDoor
/- Contracts of the book's stillInts and putInts. -/
namespace Go.Proofs.YtplofbabfkkimaaGreatDoor
open Go.RowKit Go.Maps
attribute [local go_sem ↓] Go.wp_at_zero Go.wp_at_succ
set_option maxRecDepth 100000 in
set_option maxHeartbeats 4000000 in
theorem still_any (bk : Nat) (vi vw : Value) (ls ws : List Value) (zss : List (List Int)) (w : World) (h : Bs w bk vi vw ls ws zss) :
 Calls Tryz.prog 39 #[.pointer (some ⟨bk, 0, none⟩)] w fun r w' => r = .returned (.bool true) ∧ Below w.heap.size w w' := by
 obtain ⟨ai, ci, rfl⟩ := row_shape h.p.ri
 obtain ⟨n, hn⟩ : ∃ n, n = zss.length := ⟨_, rfl⟩
 have HB : Hid _ := And.intro h (And.intro hn h.p.len)
 have c0 := h.p.c0
 rw [← hn] at c0
 have hnl : n ≤ 400 := by rw [hn]; exact h.p.len
 clear h hn
 go_enter Tryz.func39, Tryz.ntmps39
 go_wp2_with fail
 go_loopg [3] n (fun q iv wr => ∃ (i : Nat), q = n - i ∧ i ≤ n ∧ iv = .int .i64 i ∧ Below w.heap.size w wr)
 case atStart => exact ⟨0, rfl, Nat.zero_le _, rfl, Below.refl _ _⟩
 case round =>
  obtain ⟨i, rfl, hi, rfl, hb⟩ := hrel
  have c0' := cell_up c0 hb
  by_cases hlt : i < n
  ·obtain ⟨zs, hz⟩ : ∃ zs, zss[i]? = some zs := ⟨zss[i]'(by have := HB.out.2.1; omega), List.getElem?_eq_getElem _⟩
   have h1 := HB.out.1.below hb
   obtain ⟨gi, ci', l, hv, _, cl, hO⟩ := h1.p.at hz
   obtain ⟨gw, cw, l2, hv2, cl2, hO2⟩ := h1.at hz
   have c1 := h1.c1
   rw [hv2] at c1
   injection hv with e1 e2 e3
   subst e1
   rw [← HB.out.2.1] at c1
   have hzl := h1.p.sz zs (List.mem_of_getElem? hz)
   obtain ⟨a1, k1, rfl⟩ := row_shape hO
   obtain ⟨a2, k2, rfl⟩ := row_shape hO2
   have q0 : (0 : Int) ≤ (i : Int) := by omega
   have q1 : (i : Int) < (n : Int) := by omega
   have hSm := fun W (hw : Below wr.heap.size wr W) => sameInts_b (.slice a1 zs.length k1) (.slice a2 zs.length k2) zs zs W (by omega) (by omega) (hO.has.below hw) (hO2.has.below hw)
   rw [beq_self_eq_true] at hSm
   have HS : Hid _ := hSm
   have HBl : Hid _ := hb
   clear hSm hO hO2 h1 hz hb hzl e2 e3 hv2
   go_upto_region 4 with fail
   go_cut [28] (fun s28 wx => s28 = .bool false ∧ Below w.heap.size w wx)
   case first =>
    go_region_held3 (fun w' => w'.cell? ⟨bk, 0, none⟩ = some (.slice (some ⟨gi, 0, none⟩) n ci) ∧ w'.cell? ⟨gi, i, none⟩ = some (.slice a1 zs.length k1) ∧ w'.cell? ⟨bk, 1, none⟩ = some (.slice (some ⟨gw, 0, none⟩) n cw) ∧ w'.cell? ⟨gw, i, none⟩ = some (.slice a2 zs.length k2)) (go_keep)
     ((first
       | (go_at_call 15; refine (HS.out _ (by repeat (first | exact Below.refl _ _ | assumption | refine Below.drew ?_ | refine Below.setCell ?_ (by simp) _ | refine Below.alloc ?_ (by simp) _))).mono ?_; rintro r8 w8 ⟨rfl, hb8'⟩; have hb8 := below_of_drew3 hb8'; have c0' := cell_up c0' hb8; have cl := cell_up cl hb8; have c1 := cell_up c1 hb8; have cl2 := cell_up cl2 hb8; have H8 : Hid _ := HBl.out.trans (hb8.mono HBl.out.size); clear hb8 hb8' HS)
       | fail))
    all_goals (refine Met.intro ?_; apply_assumption; refine Met.intro ?_; apply_assumption; (repeat apply Exists.intro); refine ⟨?rel, rfl⟩; case rel => exact ⟨rfl, by first | exact H8.out | exact below_drewN H8.out _⟩)
   case rest =>
    obtain ⟨rfl, hb9⟩ := hcut
    have H9 : Hid _ := hb9
    clear hb9 HS c0' cl c1 cl2
    go_wp2_with fail
    go_roundg (n - (i + 1))
    case measure => omega
    case rel => exact ⟨i + 1, rfl, by omega, by go_num, H9.out⟩
  ·obtain rfl : i = n := by omega
   have q1 : ¬ (i : Int) < (i : Int) := by omega
   have HBl : Hid _ := hb
   clear hb
   go_wp2_with fail
   go_ret
   exact ⟨rfl, HBl.out⟩
end Go.Proofs.YtplofbabfkkimaaGreatDoor
/- Contract of the book's putInts. -/
namespace Go.Proofs.YtplofbabfkkimaaGreatDoor
open Go.RowKit Go.Maps
attribute [local go_sem ↓] Go.wp_at_zero Go.wp_at_succ
def mid (i : Nat) (zs : List Int) (k : Nat) : List Int := marks i 0 k ++ zs.drop k
theorem mid_len (i : Nat) (zs : List Int) {k : Nat} (hk : k ≤ zs.length) : (mid i zs k).length = zs.length := by
 unfold mid
 rw [List.length_append, marks_len, List.length_drop]
 omega
theorem mid_zero (i : Nat) (zs : List Int) : mid i zs 0 = zs := by simp [mid, marks]
theorem mid_full (i : Nat) (zs : List Int) : mid i zs zs.length = marks i 0 zs.length := by simp [mid]
theorem mid_succ (i : Nat) (zs : List Int) {k : Nat} (hk : k < zs.length) : (mid i zs k).set k (mk1 i k) = mid i zs (k + 1) := by
 unfold mid
 rw [List.set_append_right _ _ (by rw [marks_len]; exact Nat.le_refl _), marks_len, Nat.sub_self, marks_succ, List.append_assoc, Nat.zero_add]
 congr 1
 rw [List.drop_eq_getElem_cons hk]
 rfl
structure Mkd (zss yss : List (List Int)) (i : Nat) : Prop where
 len : yss.length = zss.length
 at' : ∀ (k : Nat) (zs : List Int), zss[k]? = some zs → yss[k]? = some (if k < i then marks k 0 zs.length else zs)
theorem Mkd.start (zss : List (List Int)) : Mkd zss zss 0 := ⟨rfl, fun k zs h => by rw [if_neg (by omega)]; exact h⟩
theorem Mkd.next {zss yss : List (List Int)} {i : Nat} {zs : List Int} (h : Mkd zss yss i) (hi : zss[i]? = some zs) : Mkd zss (yss.set i (marks i 0 zs.length)) (i + 1) := by
 refine ⟨by rw [List.length_set]; exact h.len, fun k ys hk => ?_⟩
 have hlt := (List.getElem?_eq_some_iff.1 hi).1
 by_cases e : k = i
 ·subst e
  rw [List.getElem?_set_self (by rw [h.len]; exact hlt), if_pos (by omega)]
  rw [hi] at hk
  cases hk
  rfl
 ·rw [List.getElem?_set_ne (fun e' => e e'.symm), h.at' k ys hk]
  by_cases h2 : k < i
  ·rw [if_pos h2, if_pos (by omega)]
  ·rw [if_neg h2, if_neg (by omega)]
def allM (zss : List (List Int)) : List (List Int) := zss.mapIdx fun k zs => marks k 0 zs.length
theorem Mkd.fin {zss yss : List (List Int)} (h : Mkd zss yss zss.length) : yss = allM zss := by
 apply List.ext_getElem?
 intro k
 unfold allM
 rw [List.getElem?_mapIdx]
 cases e : zss[k]? with
 | none =>
   rw [List.getElem?_eq_none_iff] at e
   rw [List.getElem?_eq_none_iff.2 (by rw [h.len]; exact e)]
   rfl
 | some zs =>
   have hlt := (List.getElem?_eq_some_iff.1 e).1
   rw [h.at' k zs e, if_pos hlt]
   rfl
set_option maxRecDepth 100000 in
set_option maxHeartbeats 8000000 in
theorem putI_any (bk : Nat) (vi : Value) (ls : List Value) (zss : List (List Int)) (w : World) (h : Bp w bk vi ls zss) :
 Calls Tryz.prog 50 #[.pointer (some ⟨bk, 0, none⟩)] w fun r w' => r = .returned (.tuple #[]) ∧ Bp w' bk vi ls (allM zss) ∧ Kept (LsF ls) w w' := by
 obtain ⟨ai, ci, rfl⟩ := row_shape h.ri
 obtain ⟨n, hn⟩ : ∃ n, n = zss.length := ⟨_, rfl⟩
 have hnl : n ≤ 400 := by rw [hn]; exact h.len
 have HB : Hid _ := And.intro h hn
 have HZ : Hid (n = zss.length) := hn
 rw [← hn]
 clear h hn
 go_enter Tryz.func50, Tryz.ntmps50
 go_wp2_with fail
 go_loopg [2] n (fun q iv wr => ∃ (i : Nat) (yss : List (List Int)), q = n - i ∧ i ≤ n ∧ iv = .int .i64 i ∧ Mkd zss yss i ∧ Bp wr bk (.slice ai n ci) ls yss ∧ Kept (LsF ls) w wr)
 case atStart => exact ⟨0, zss, rfl, Nat.zero_le _, rfl, Mkd.start _, by have h1 := HB.out.1; rw [← HZ.out] at h1; exact h1, Kept.refl _ _⟩
 case round =>
  obtain ⟨i, yss, rfl, hi, rfl, hM, hP, hK⟩ := hrel
  clear HB
  obtain ⟨wq, rfl⟩ : ∃ wq, wq = wr := ⟨_, rfl⟩
  have c0 := hP.c0
  by_cases hlt : i < n
  ·obtain ⟨zs, hz⟩ : ∃ zs, zss[i]? = some zs := ⟨zss[i]'(by have := HZ.out; omega), List.getElem?_eq_getElem _⟩
   have hy : yss[i]? = some zs := by rw [hM.at' i zs hz, if_neg (by omega)]
   obtain ⟨gi, ci', l, hv, hl, cl, hO⟩ := hP.at hy
   injection hv with e1 e2 e3
   subst e1
   have hzl := hP.sz zs (List.mem_of_getElem? hy)
   obtain ⟨a1, k1, rfl⟩ := row_shape hO
   have q0 : (0 : Int) ≤ (i : Int) := by omega
   have q1 : (i : Int) < (n : Int) := by omega
   have HMk : Hid _ := mark_any i 0 zs.length wq (by omega) (by omega)
   have HI : Hid _ := And.intro hM (And.intro hP (And.intro hK (And.intro hz (And.intro hy hl))))
   clear hM hP hK hz hy hl hO e2 e3
   go_wp2_with fail
   refine Calls.mono HMk.out ?_
   rintro r w2 ⟨vm, rfl, hOm, hb2⟩
   obtain ⟨am, km, rfl⟩ := row_shape hOm
   have hml : (marks i 0 zs.length).length = zs.length := marks_len _ _ _
   rw [hml]
   have hOm' : w2.ownsRow wq.heap.size 3 1 (.slice am zs.length km) zs.length (iC (marks i 0 zs.length)) := by have h1 := hOm; unfold OwnI at h1; rw [hml] at h1; exact h1
   have H2 : Hid _ := And.intro hOm' (And.intro hb2 (HI.out.2.1.below hb2))
   obtain ⟨N, hN⟩ : ∃ N, N = zs.length := ⟨_, rfl⟩
   have HNz : Hid (N = zs.length) := hN
   rw [← hN] at hzl ⊢
   clear hOm hOm' hb2 hml hN HMk c0 cl
   go_wp2_with fail
   go_loopg [4] N (fun q kv wr => ∃ (k : Nat), q = N - k ∧ k ≤ N ∧ kv = .int .i64 k ∧ Bp wr bk (.slice (some ⟨gi, 0, none⟩) n ci) ls (yss.set i (mid i zs k)) ∧ Kept (fun b => (Value.slice a1 zs.length k1).ownBlock = some b) w2 wr)
   case atStart => exact ⟨0, rfl, Nat.zero_le _, rfl, by rw [mid_zero, set_same HI.out.2.2.2.2.1]; exact H2.out.2.2, Kept.refl _ _⟩
   case round =>
    obtain ⟨k, rfl, hk, rfl, hPk, hKk⟩ := hrel
    have hyl : i < yss.length := by have h1 := HI.out.1.len; have h2 := HZ.out; omega
    have hyk : (yss.set i (mid i zs k))[i]? = some (mid i zs k) := List.getElem?_set_self hyl
    have c0 := hPk.c0
    by_cases hkl : k < N
    ·obtain ⟨gi', ci'', l', hv', hl', cl', hO'⟩ := hPk.at hyk
     injection hv' with e1 en1 en2
     clear en1 en2
     have e1 := Option.some.inj e1
     injection e1 with e1
     subst e1
     rw [HI.out.2.2.2.2.2] at hl'
     have e2 := Option.some.inj hl'
     subst e2
     have hmidl : (mid i zs k).length = zs.length := mid_len i zs (by have := HNz.out; omega)
     obtain ⟨g, cg, hf, _, hgl⟩ := World.ownsRow.form hO' (by rw [hmidl]; have := HNz.out; omega)
     injection hf with e3 en3 e4
     clear en3
     subst e3; subst e4
     obtain ⟨gm, cm, hfm, hgm, _⟩ := World.ownsRow.form H2.out.1 (by have := HNz.out; omega)
     injection hfm with e5 en5 e6
     clear en5
     subst e5; subst e6
     have hgq : g < wq.heap.size := ((HI.out.2.1.li i _ zs HI.out.2.2.2.2.2 HI.out.2.2.2.2.1).lt g rfl).2
     have cM : wr.cell? ⟨gm, k, none⟩ = some (.int .i64 (mk1 i k)) := by
      have h1 : w2.cell? ⟨gm, k, none⟩ = some (.int .i64 (mk1 i k)) := by
       rw [World.ownsRow.cellAt H2.out.1 k (by have := HNz.out; omega)]
       unfold iC
       rw [List.getElem?_map, marks_at (by have := HNz.out; omega), Nat.zero_add]
       rfl
      rw [World.cell?_of_block (a := ⟨gm, k, none⟩) (hKk.block gm (World.block_lt_of_cell? w2 _ h1) (fun e => by have h9 := Option.some.inj e; simp at h9; omega))]
      exact h1
     obtain ⟨z0, hz0⟩ : ∃ z0, (mid i zs k)[k]? = some z0 := ⟨(mid i zs k)[k]'(by rw [hmidl]; have := HNz.out; omega), List.getElem?_eq_getElem _⟩
     have cG := OwnI.cell hO' hz0
     obtain ⟨cc, hcc⟩ := row_cells hO' (i := g) rfl
     have cF := blk_free hcc k
     have q2 : (0 : Int) ≤ (k : Int) := by omega
     have q3 : (k : Int) < (N : Int) := by omega
     have hset := hPk.set hyk HI.out.2.2.2.2.2 k (mk1 i k)
     rw [List.set_set, mid_succ i zs (by have := HNz.out; omega)] at hset
     have HJ : Hid _ := And.intro hset (hKk.trans ((Kept.setCell wr g k (.int .i64 (mk1 i k))).mono fun b _ hb => by subst hb; rfl))
     clear hset hPk hKk hyk hO' hl' hz0 hcc hmidl hgl
     rw [← HNz.out] at cl'
     go_upto_region 7 with fail
     go_region
     all_goals
      go_wp2_with fail
      go_roundg (N - (k + 1))
      case measure => omega
      case rel => exact ⟨k + 1, rfl, by omega, by go_num, by first | exact HJ.out.1 | exact HJ.out.1.below ((Below.refl _ _).drew), by first | exact HJ.out.2 | exact HJ.out.2.trans (.of_below ((Below.refl _ _).drew))⟩
    ·obtain rfl : k = N := by omega
     have q3 : ¬ (k : Int) < (k : Int) := by omega
     have hfull : mid i zs k = marks i 0 zs.length := by rw [HNz.out]; exact mid_full i zs
     rw [hfull] at hPk
     have hKw : Kept (LsF ls) w wr := (HI.out.2.2.1.trans (.of_below H2.out.2.1)).trans (hKk.mono fun b _ hb => ⟨_, List.mem_of_getElem? HI.out.2.2.2.2.2, hb⟩)
     have HJ : Hid _ := And.intro hPk (And.intro hKw (HI.out.1.next HI.out.2.2.2.1))
     clear hPk hKk hyk hfull hKw
     go_wp2_with fail
     go_roundg (n - (i + 1))
     case measure => omega
     case rel => exact ⟨i + 1, _, rfl, by omega, by go_num, HJ.out.2.2, HJ.out.1, HJ.out.2.1⟩
  ·obtain rfl : i = n := by omega
   have q1 : ¬ (i : Int) < (i : Int) := by omega
   have hMf : Mkd zss yss zss.length := by rw [← HZ.out]; exact hM
   have hP' := hP
   rw [hMf.fin] at hP'
   have HJ : Hid _ := And.intro hP' hK
   clear hP' hP hK hM hMf
   go_wp2_with fail
   go_end0
   exact ⟨rfl, HJ.out.1, HJ.out.2⟩
end Go.Proofs.YtplofbabfkkimaaGreatDoor
/- Contract of the book's markedInts. -/
namespace Go.Proofs.YtplofbabfkkimaaGreatDoor
open Go.RowKit Go.Maps
attribute [local go_sem ↓] Go.wp_at_zero Go.wp_at_succ
structure Mr (w : World) (v : Value) (ns : List Nat) : Prop where
 ex : ∃ ao cap, v = .slice ao ns.length cap ∧ ∀ (k n : Nat), ns[k]? = some n → ∃ a l, ao = some a ∧ w.cell? (a.add k) = some l ∧ HasI w l (marks k 0 n)
theorem Mr.below {w w' : World} {v : Value} {ns : List Nat} (h : Mr w v ns) (hb : Below w.heap.size w w') : Mr w' v ns := by
 obtain ⟨ao, cap, hv, h1⟩ := h.ex
 refine ⟨ao, cap, hv, fun k n hk => ?_⟩
 obtain ⟨a, l, ha, hc, hl⟩ := h1 k n hk
 exact ⟨a, l, ha, (hb.cell (World.block_lt_of_cell? w _ hc)).trans hc, hl.below hb⟩
set_option maxRecDepth 100000 in
set_option maxHeartbeats 4000000 in
theorem markedI_any (v : Value) (ns : List Nat) (w : World) (h : Mr w v ns) (hl : ns.length ≤ 400) (hs : ∀ n ∈ ns, n ≤ 2000000) :
 Calls Tryz.prog 72 #[v] w fun r w' => r = .returned (.bool true) ∧ Below w.heap.size w w' := by
 obtain ⟨ao, cap, rfl, _⟩ := h.ex
 obtain ⟨n, hn⟩ : ∃ n, n = ns.length := ⟨_, rfl⟩
 have HM : Hid _ := And.intro h (And.intro hs hn)
 rw [← hn] at hl ⊢
 clear h hs hn
 go_enter Tryz.func72, Tryz.ntmps72
 go_wp2_with fail
 go_loopg [3] n (fun q iv wr => ∃ (i : Nat), q = n - i ∧ i ≤ n ∧ iv = .int .i64 i ∧ Below w.heap.size w wr)
 case atStart => exact ⟨0, rfl, Nat.zero_le _, rfl, Below.refl _ _⟩
 case round =>
  obtain ⟨i, rfl, hi, rfl, hb⟩ := hrel
  by_cases hlt : i < n
  ·obtain ⟨N, hN⟩ : ∃ N, ns[i]? = some N := ⟨ns[i]'(by have := HM.out.2.2; omega), List.getElem?_eq_getElem _⟩
   obtain ⟨ao', cap', hv, h1⟩ := (HM.out.1.below hb).ex
   injection hv with e1 e2 e3
   subst e1
   obtain ⟨a, l, rfl, cl, hL⟩ := h1 i N hN
   have hN2 := HM.out.2.1 N (List.mem_of_getElem? hN)
   obtain ⟨al, kl, hlv, _⟩ := _root_.id hL
   rw [marks_len] at hlv
   subst hlv
   have q0 : (0 : Int) ≤ (i : Int) := by omega
   have q1 : (i : Int) < (n : Int) := by omega
   have hMk := fun W => mark_any i 0 N W (by omega) (by omega)
   have HK : Hid _ := And.intro hMk (And.intro hL hb)
   clear hMk hL hb h1 hN e2 e3
   go_upto_region 4 with fail
   go_cut [22] (fun s22 wx => s22 = .bool false ∧ Below w.heap.size w wx)
   case first =>
    go_region_held3 (fun w' => w'.cell? (a.add i) = some (.slice al N kl)) (go_keep)
     ((first
       | (go_at_call 114; refine (HK.out.1 _).mono ?_; rintro r8 w8 ⟨v8, rfl, hO8, hb8'⟩; have hb8 := below_of_drew3 hb8'; have cl := (hb8.cell (World.block_lt_of_cell? _ _ cl)).trans cl; have hL8 := HK.out.2.1.below hb8; have hS8 := sameInts_b (.slice al N kl) v8 (marks i 0 N) (marks i 0 N) w8 (by rw [marks_len]; omega) (by rw [marks_len]; omega) hL8 hO8.has; rw [beq_self_eq_true] at hS8; have H8 : Hid _ := And.intro hS8 (HK.out.2.2.trans (hb8.mono HK.out.2.2.size)); clear hb8 hb8' hO8 hL8 hS8)
       | (go_at_call 15; refine (Calls.mono H8.out.1 ?_); rintro r9 w9 ⟨rfl, hb9⟩; have cl := (hb9.cell (World.block_lt_of_cell? _ _ cl)).trans cl; have H9 : Hid _ := H8.out.2.trans (hb9.mono H8.out.2.size); clear hb9)
       | fail))
    all_goals (refine Met.intro ?_; apply_assumption; refine Met.intro ?_; apply_assumption; (repeat apply Exists.intro); refine ⟨?rel, rfl⟩; case rel => exact ⟨rfl, by first | exact H9.out | exact below_drewN H9.out _⟩)
   case rest =>
    obtain ⟨rfl, hb9⟩ := hcut
    have H9 : Hid _ := hb9
    clear hb9 cl
    go_wp2_with fail
    go_roundg (n - (i + 1))
    case measure => omega
    case rel => exact ⟨i + 1, rfl, by omega, by go_num, H9.out⟩
  ·obtain rfl : i = n := by omega
   have q1 : ¬ (i : Int) < (i : Int) := by omega
   have HBl : Hid _ := hb
   clear hb
   go_wp2_with fail
   go_ret
   exact ⟨rfl, HBl.out⟩
end Go.Proofs.YtplofbabfkkimaaGreatDoor
/- What stands while the book's growInts goes on. -/
namespace Go.Proofs.YtplofbabfkkimaaGreatDoor
open Go.RowKit Go.Maps
structure GrI (w wr : World) (bk : Nat) (vi : Value) (ls : List Value) (zss : List (List Int)) (i : Nat) (vo : Value) (os : List Value) : Prop where
 c0 : wr.cell? ⟨bk, 0, none⟩ = some vi
 ri : wr.ownsRow 0 45 1 vi zss.length ls
 todo : ∀ (k : Nat) (l : Value) (zs : List Int), i ≤ k → ls[k]? = some l → zss[k]? = some zs → OwnI wr 0 l zs
 done : ∀ (k : Nat) (l : Value) (zs : List Int), k < i → ls[k]? = some l → zss[k]? = some zs → HasI wr l zs ∧ ∃ o, os[k]? = some o ∧ HasI wr o (zs ++ marks k zs.length 96) ∧ (o.ownBlock = l.ownBlock ∨ ∀ b, o.ownBlock = some b → w.heap.size ≤ b) ∧ ∀ b, o.ownBlock = some b → vo.ownBlock ≠ some b
 row : wr.ownsRow w.heap.size 45 1 vo i os
 kp : Kept (LsF ls) w wr
structure Gs (w : World) (bk : Nat) (vi : Value) (ls : List Value) : Prop where
 ap : Apt bk vi ls
 bk : bk < w.heap.size
 vi : ∀ b, vi.ownBlock = some b → b < w.heap.size
 ls : ∀ l ∈ ls, ∀ b, l.ownBlock = some b → b < w.heap.size
theorem gr_start {w : World} {bk : Nat} {vi : Value} {ls : List Value} {zss : List (List Int)} (h : Bp w bk vi ls zss) : GrI w w bk vi ls zss 0 (.slice none 0 0) [] ∧ Gs w bk vi ls := by
 refine ⟨⟨h.c0, h.ri, fun k l zs _ h1 h2 => h.li k l zs h1 h2, fun k l zs hk => by omega, World.ownsRow_nil _ _ _ _, Kept.refl _ _⟩, ⟨h.ap, World.block_lt_of_cell? w _ h.c0, fun b hb => (h.ri.lt b hb).2, fun l hl b hb => ?_⟩⟩
 obtain ⟨k, hk, rfl⟩ := List.getElem_of_mem hl
 have hz : zss[k]? = some (zss[k]'(by rw [← h.ll]; exact hk)) := List.getElem?_eq_getElem _
 exact ((h.li k _ _ (List.getElem?_eq_getElem hk) hz).lt b hb).2
structure Gm (wq wr : World) (l : Value) (zs : List Int) (i : Nat) (lv : Value) (m : Nat) : Prop where
 kp : Kept (fun b => l.ownBlock = some b) wq wr
 has : HasI wr l zs
 own : OwnI wr 0 lv (zs ++ marks i zs.length m)
 at' : lv.ownBlock = l.ownBlock ∨ ∀ b, lv.ownBlock = some b → wq.heap.size ≤ b
theorem gm_start {wq : World} {l : Value} {zs : List Int} (i : Nat) (h : OwnI wq 0 l zs) : Gm wq wq l zs i l 0 :=
 ⟨Kept.refl _ _, h.has, by simpa [marks] using h, .inl rfl⟩
theorem Gm.below {wq wr w' : World} {l : Value} {zs : List Int} {i : Nat} {lv : Value} {m : Nat} (h : Gm wq wr l zs i lv m) (hb : Below wr.heap.size wr w') : Gm wq w' l zs i lv m :=
 ⟨h.kp.trans (.of_below hb), h.has.below hb, trow_at h.own fun k hk => hb.block k (h.own.lt k hk).2, h.at'⟩
theorem has_prefix {w : World} {l lv : Value} {zs ys : List Int} (hl : ∃ c, l = .slice (match l with | .slice a _ _ => a | _ => none) zs.length c) (ho : OwnI w 0 lv (zs ++ ys)) (he : lv.ownBlock = l.ownBlock) (hlf : zs ≠ [] → ∃ g c, l = .slice (some ⟨g, 0, none⟩) zs.length c) (h0 : zs = [] → HasI w l zs) : HasI w l zs := by
 by_cases hz : zs = []
 ·exact h0 hz
 obtain ⟨g, c, rfl⟩ := hlf hz
 refine ⟨_, c, rfl, fun j z hj => ⟨_, rfl, ?_⟩⟩
 have hlt := (List.getElem?_eq_some_iff.1 hj).1
 obtain ⟨g2, c2, rfl, _, _⟩ := World.ownsRow.form ho (by rw [List.length_append]; omega)
 have hg : g2 = g := by have h1 := he; simp [Value.ownBlock] at h1; exact h1
 subst hg
 rw [addz]
 exact OwnI.cell ho (by rw [List.getElem?_append_left hlt]; exact hj)
theorem Gm.app {wq wr w' : World} {l : Value} {zs : List Int} {i : Nat} {lv lv' : Value} {m d : Nat} (h : Gm wq wr l zs i lv m) (hO : OwnI wq 0 l zs) (hn : w'.ownsRow 0 3 1 lv' ((zs ++ marks i zs.length m).length + d) (iC (zs ++ marks i zs.length m) ++ iC (marks i (zs.length + m) d)))
 (hk : (lv'.ownBlock = lv.ownBlock ∧ wr.grownBy w' lv.ownBlock) ∨ ((∀ k, lv'.ownBlock = some k → wr.heap.size ≤ k) ∧ wr.grownBy w' none)) : Gm wq w' l zs i lv' (m + d) := by
 have e1 : zs ++ marks i zs.length (m + d) = (zs ++ marks i zs.length m) ++ marks i (zs.length + m) d := by rw [List.append_assoc, marks_add]
 have hown : OwnI w' 0 lv' (zs ++ marks i zs.length (m + d)) := by
  have e2 : ((zs ++ marks i zs.length m) ++ marks i (zs.length + m) d).length = (zs ++ marks i zs.length m).length + d := by rw [List.length_append, marks_len i (zs.length + m) d]
  have e3 : iC ((zs ++ marks i zs.length m) ++ marks i (zs.length + m) d) = iC (zs ++ marks i zs.length m) ++ iC (marks i (zs.length + m) d) := by unfold iC; rw [List.map_append]
  unfold OwnI
  rw [e1, e2, e3]
  exact hn
 rcases hk with ⟨h1, h2⟩ | ⟨h1, h2⟩
 ·have hkk : Kept (fun b => l.ownBlock = some b) wq w' := by
   refine h.kp.trans2 (Kept.of_grown h2) fun b hb => ?_
   rcases h.at' with e | e
   ·exact .inl (by rw [← e]; exact hb)
   ·exact .inr (e b hb)
  refine ⟨hkk, ?_, hown, ?_⟩
  ·rcases h.at' with e | e
   ·obtain ⟨al, cl, hlv⟩ := row_shape hO
    refine has_prefix ⟨cl, by rw [hlv]⟩ hown (h1.trans e) (fun hz => ?_) (fun hz => ?_)
    ·obtain ⟨g, c, hf, _, _⟩ := World.ownsRow.form hO (List.length_pos_iff.2 hz)
     exact ⟨g, c, hf⟩
    ·subst hz; rw [hlv]; exact ⟨al, cl, rfl, fun j z hj => by simp at hj⟩
   ·exact h.has.kept (Kept.of_grown h2) fun hz b hb hf => by
     have h3 := e b hf
     have h4 := made_far hO.has hz hb
     omega
  ·rcases h.at' with e | e
   ·exact .inl (h1.trans e)
   ·exact .inr fun b hb => e b (by rw [← h1]; exact hb)
 ·refine ⟨h.kp.trans ((Kept.of_grown h2).mono fun b _ hb => by cases hb), h.has.kept (Kept.of_grown h2) fun _ b _ hf => (by cases hf), hown, .inr fun b hb => ?_⟩
  have := h1 b hb
  have := h.kp.size
  omega
theorem GrI.next {w wq wr w' : World} {bk : Nat} {vi : Value} {ls : List Value} {zss : List (List Int)} {i : Nat} {vo vo' : Value} {os : List Value} {l lv : Value} {zs : List Int} (h : GrI w wq bk vi ls zss i vo os) (hs : Gs w bk vi ls) (hl : ls[i]? = some l) (hz : zss[i]? = some zs) (hm : Gm wq wr l zs i lv 96)
 (hr : w'.ownsRow w.heap.size 45 1 vo' (i + 1) (os ++ [lv])) (hg : wr.grownBy w' vo.ownBlock) (hat : vo'.ownBlock = vo.ownBlock ∨ ∀ b, vo'.ownBlock = some b → wr.heap.size ≤ b) : GrI w w' bk vi ls zss (i + 1) vo' (os ++ [lv]) := by
 have hlm := List.mem_of_getElem? hl
 have hO := h.todo i l zs (Nat.le_refl _) hl hz
 have hvo : ∀ b, vo.ownBlock = some b → w.heap.size ≤ b ∧ b < wq.heap.size := fun b hb => h.row.lt b hb
 -- a block below w that is not the list's own stands
 have hst : ∀ b, b < w.heap.size → l.ownBlock ≠ some b → w'.heap[b]? = wq.heap[b]? := fun b hb hn => by
  have h1 := h.kp.size
  have h2 := hm.kp.size
  rw [hg.block b (by omega) (fun e => by have := (hvo b e.symm).1; omega)]
  exact hm.kp.block b (by omega) hn
 have hst2 : ∀ b, b < wq.heap.size → l.ownBlock ≠ some b → vo.ownBlock ≠ some b → w'.heap[b]? = wq.heap[b]? := fun b hb hn hn2 => by
  have h2 := hm.kp.size
  rw [hg.block b (by omega) (fun e => hn2 e.symm)]
  exact hm.kp.block b hb hn
 have hKw : Kept (LsF ls) w w' := by
  refine (h.kp.trans (hm.kp.mono fun b _ hb => ⟨l, hlm, hb⟩)).trans2 (Kept.of_grown hg) fun b hb => .inr (hvo b hb).1
 have hK2 : Kept (fun b => l.ownBlock = some b ∨ vo.ownBlock = some b) wq w' := (hm.kp.mono fun b _ hb => .inl hb).trans ((Kept.of_grown hg).mono fun b _ hb => .inr hb)
 have hlen : os.length = i := by have := h.row.1; rw [Nat.mul_one] at this; exact this
 refine ⟨?_, trow_at h.ri fun b hb => hst b (hs.vi b hb) (fun e => hs.ap.r l hlm b e hb), fun k l2 zs2 hk h1 h2 => ?_, fun k l2 zs2 hk h1 h2 => ?_, hr, hKw⟩
 ·rw [World.cell?_of_block (a := ⟨bk, 0, none⟩) (hst bk hs.bk (hs.ap.b l hlm))]; exact h.c0
 ·exact trow_at (h.todo k l2 zs2 (by omega) h1 h2) fun b hb => hst b (hs.ls l2 (List.mem_of_getElem? h1) b hb) fun e => hs.ap.p i k l l2 hl h1 (by omega) b e hb
 ·by_cases e : k = i
  ·subst e
   rw [hl] at h1; rw [hz] at h2
   cases h1; cases h2
   have hvn : ∀ b, lv.ownBlock = some b → vo.ownBlock ≠ some b := fun b hb hv => by
    have h3 := hvo b hv
    rcases hm.at' with e | e
    ·rw [e] at hb; have := hs.ls l hlm b hb; omega
    ·have := e b hb; omega
   have hO' := trow_at (w' := w') hm.own fun b hb => hg.block b (hm.own.lt b hb).2 fun e => hvn b hb e.symm
   refine ⟨hm.has.kept (Kept.of_grown hg) fun hz b hb hf => ?_, lv, ?_, OwnI.has hO', ?_, fun b hb hv => ?_⟩
   ·have := hs.ls l hlm b hb; have := (hvo b hf).1; omega
   ·rw [List.getElem?_append_right (by omega), hlen, Nat.sub_self]; rfl
   ·rcases hm.at' with e | e
    ·exact .inl e
    ·exact .inr fun b hb => by have := e b hb; have := h.kp.size; omega
   ·rcases hat with e | e
    ·rw [e] at hv; exact hvn b hb hv
    ·have h3 := e b hv
     have := (hm.own.lt b hb).2
     omega
  ·obtain ⟨d1, o, d2, d3, d4, d5⟩ := h.done k l2 zs2 (by omega) h1 h2
   have hne : ∀ b, l2.ownBlock = some b → l.ownBlock ≠ some b := fun b hb e' => hs.ap.p i k l l2 hl h1 (fun e9 => e e9.symm) b e' hb
   refine ⟨?_, o, by rw [List.getElem?_append_left (by omega)]; exact d2, ?_, d4, fun b hb hv => ?_⟩
   ·exact d1.kept hK2 fun _ b hb hf => hf.elim (hne b hb) fun hv => by
     have h3 := hs.ls l2 (List.mem_of_getElem? h1) b hb
     have h4 := (hvo b hv).1
     omega
   ·exact d3.kept hK2 fun _ b hb hf => hf.elim (fun hv => by
     rcases d4 with e9 | e9
     ·rw [e9] at hb; exact hne b hb hv
     ·have h3 := e9 b hb
      have h4 := hs.ls l hlm b hv
      omega) (d5 b hb)
   ·rcases hat with e9 | e9
    ·rw [e9] at hv; exact d5 b hb hv
    ·have h3 := e9 b hv
     have h4 := made_far d3 (fun e8 => by have h5 := congrArg List.length e8; rw [List.length_append, marks_len] at h5; simp at h5) hb
     have h5 := hm.kp.size
     omega
end Go.Proofs.YtplofbabfkkimaaGreatDoor
/- Contract of the book's growInts. -/
namespace Go.Proofs.YtplofbabfkkimaaGreatDoor
open Go.RowKit Go.Maps
attribute [local go_sem ↓] Go.wp_at_zero Go.wp_at_succ
theorem Tryz.infoRowI : (Tryz.prog.info? 45).map (fun i => (i.zero, i.size, i.bytes)) = some (some (.slice none 0 0), 1, 24) := by kernel_rfl
set_option maxRecDepth 100000 in
set_option maxHeartbeats 8000000 in
theorem growI_any (bk : Nat) (vi : Value) (ls : List Value) (zss : List (List Int)) (w : World) (h : Bp w bk vi ls zss) :
 Calls Tryz.prog 61 #[.pointer (some ⟨bk, 0, none⟩)] w fun r w' => ∃ vo os, r = .returned vo ∧ GrI w w' bk vi ls zss zss.length vo os := by
 obtain ⟨i0, hi0, hz0, hz1, hz2⟩ := info_parts Tryz.infoI3
 obtain ⟨j0, hj0, hy0, hy1, hy2⟩ := info_parts Tryz.infoRowI
 obtain ⟨ai, ci, rfl⟩ := row_shape h.ri
 obtain ⟨n, hn⟩ : ∃ n, n = zss.length := ⟨_, rfl⟩
 have hnl : n ≤ 400 := by rw [hn]; exact h.len
 have h2 := gr_start h
 rw [← hn] at h2 ⊢
 have HS : Hid _ := And.intro h2.2 (And.intro hn h.sz)
 have HR : Hid _ := h2.1
 clear h hn h2
 go_enter Tryz.func61, Tryz.ntmps61
 go_wp2_with fail
 go_loopg [3, 4] n (fun q ov iv wr => ∃ (i : Nat) (os : List Value), q = n - i ∧ i ≤ n ∧ iv = .int .i64 i ∧ GrI w wr bk (.slice ai n ci) ls zss i ov os)
 case atStart => exact ⟨0, [], rfl, Nat.zero_le _, rfl, HR.out⟩
 case round =>
  obtain ⟨i, os, rfl, hi, rfl, hG⟩ := hrel
  clear HR
  obtain ⟨wq, rfl⟩ : ∃ wq, wq = wr := ⟨_, rfl⟩
  have c0 := hG.c0
  by_cases hlt : i < n
  ·obtain ⟨zs, hz⟩ : ∃ zs, zss[i]? = some zs := ⟨zss[i]'(by have := HS.out.2.1; omega), List.getElem?_eq_getElem _⟩
   have hri := hG.ri
   rw [← HS.out.2.1] at hri
   have hll : ls.length = n := by have := hri.1; rw [Nat.mul_one] at this; exact this
   obtain ⟨l, hl⟩ : ∃ l, ls[i]? = some l := ⟨ls[i]'(by omega), List.getElem?_eq_getElem _⟩
   obtain ⟨gi, cgi, hv, _, _⟩ := World.ownsRow.form hri (by omega)
   injection hv with e1 e2 e3
   subst e1; subst e3
   clear e2
   have cl : wq.cell? ⟨gi, i, none⟩ = some l := by rw [hri.cellAt i (by omega), hl]
   have hO := hG.todo i l zs (Nat.le_refl _) hl hz
   have hzl := HS.out.2.2 zs (List.mem_of_getElem? hz)
   obtain ⟨al, kl, rfl⟩ := row_shape hO
   obtain ⟨ao, ko, rfl⟩ := row_shape hG.row
   have q0 : (0 : Int) ≤ (i : Int) := by omega
   have q1 : (i : Int) < (n : Int) := by omega
   have HG : Hid _ := And.intro hG (And.intro hO (And.intro hl hz))
   clear hG hO hl hz hri
   go_wp2_with fail
   go_loopg [5, 6] 16 (fun q lv nv wr => ∃ (m : Nat), q = 16 - m ∧ m ≤ 16 ∧ nv = .int .i64 m ∧ Gm wq wr (.slice al zs.length kl) zs i lv m)
   case atStart => exact ⟨0, rfl, Nat.zero_le _, rfl, gm_start i HG.out.2.1⟩
   case round =>
    obtain ⟨m, rfl, hm, rfl, hM⟩ := hrel
    obtain ⟨ay, ky, hys⟩ := row_shape hM.own
    have hyl : (zs ++ marks i zs.length m).length = zs.length + m := by rw [List.length_append, marks_len]
    rw [hyl] at hys
    subst hys
    obtain ⟨N, hN⟩ : ∃ N, N = zs.length + m := ⟨_, rfl⟩
    by_cases hmt : m < 16
    ·have p1 : (m : Int) < 16 := by omega
     have hMk := fun W => mark_any i N 1 W (by omega) (by omega)
     rw [← hN] at hM
     have HM : Hid _ := And.intro hM (And.intro hMk (And.intro hyl hN))
     rw [← hN]
     have hN1 : N + 1 ≤ maxLen := by unfold maxLen; omega
     have hN8 : (N + 1) * 8 ≤ 140737488355328 := by omega
     clear hM hMk hyl hN
     go_wp2_with (first
      | (go_at_call 114; refine (HM.out.2.1 _).mono ?_; rintro r8 w8 ⟨v8, rfl, hO8, hb8⟩; obtain ⟨g8, c8, rfl, _, _⟩ := World.ownsRow.form hO8 (by rw [marks_len]; omega); rw [marks_len]; have hM8 := HM.out.1.below hb8; have hown8 : w8.ownsRow 0 3 1 (.slice ay N ky) N (iC (zs ++ marks i zs.length m)) := (by have h9 := hM8.own; unfold OwnI at h9; rw [HM.out.2.2.1, ← HM.out.2.2.2] at h9; exact h9); have H8 : Hid _ := And.intro hown8 (And.intro hO8 hM8); clear hb8 hO8 hM8 hown8)
      | (at_builtin; refine wpList_append_keep _ rfl _ _ 45 rfl 0 3 i0 (.int .i64 0) 1 8 Tryz.underlying45 hi0 hz0 hz1 hz2 rfl (by decide) (.slice ay N ky) N (iC (zs ++ marks i zs.length m)) rfl H8.out.1 ⟨g8, 0, none⟩ 1 c8 (iC (marks i N 1)) rfl (by rw [iC_length, marks_len]) (fun j u hj => by rw [addz, World.ownsRow.cellAt H8.out.2.1 j (by rw [← H8.out.2.1.1]; exact (List.getElem?_eq_some_iff.1 hj).1)]; exact hj) (iC_one _) hN1 hN8 (Nat.zero_le _) ?_; intro v2 w2 hown2 hk2; have H2 : Hid _ := And.intro hown2 hk2; clear hown2 hk2)
      | fail)
     have hgm : Gm wq w2 (.slice al zs.length kl) zs i v2 (m + 1) := Gm.app H8.out.2.2 HG.out.2.1 (by rw [HM.out.2.2.1, ← HM.out.2.2.2]; exact H2.out.1) H2.out.2
     have H3 : Hid _ := hgm
     clear hgm
     go_roundg (16 - (m + 1))
     case measure => omega
     case rel => exact ⟨m + 1, rfl, by omega, by go_num, H3.out⟩
    ·obtain rfl : m = 16 := by omega
     have p1 : ¬ (16 : Int) < 16 := by omega
     have hMk := fun W => mark_any i N 80 W (by omega) (by omega)
     rw [← hN] at hM
     have HM : Hid _ := And.intro hM (And.intro hMk (And.intro hyl hN))
     rw [← hN]
     have hN1 : N + 80 ≤ maxLen := by unfold maxLen; omega
     have hN8 : (N + 80) * 8 ≤ 140737488355328 := by omega
     have hR1 : i + 1 ≤ maxLen := by unfold maxLen; omega
     have hR8 : (i + 1) * 24 ≤ 140737488355328 := by omega
     clear hM hMk hyl hN
     go_wp2_with (first
      | (go_at_call 114; refine (HM.out.2.1 _).mono ?_; rintro r8 w8 ⟨v8, rfl, hO8, hb8⟩; obtain ⟨g8, c8, rfl, _, _⟩ := World.ownsRow.form hO8 (by rw [marks_len]; omega); rw [marks_len]; have hM8 := HM.out.1.below hb8; have hown8 : w8.ownsRow 0 3 1 (.slice ay N ky) N (iC (zs ++ marks i zs.length 16)) := (by have h9 := hM8.own; unfold OwnI at h9; rw [HM.out.2.2.1, ← HM.out.2.2.2] at h9; exact h9); have H8 : Hid _ := And.intro hown8 (And.intro hO8 hM8); clear hb8 hO8 hM8 hown8)
      | (at_builtin; refine wpList_append_keep _ rfl _ _ 45 rfl 0 3 i0 (.int .i64 0) 1 8 Tryz.underlying45 hi0 hz0 hz1 hz2 rfl (by decide) (.slice ay N ky) N (iC (zs ++ marks i zs.length 16)) rfl H8.out.1 ⟨g8, 0, none⟩ 80 c8 (iC (marks i N 80)) rfl (by rw [iC_length, marks_len]) (fun j u hj => by rw [addz, World.ownsRow.cellAt H8.out.2.1 j (by rw [← H8.out.2.1.1]; exact (List.getElem?_eq_some_iff.1 hj).1)]; exact hj) (iC_one _) hN1 hN8 (Nat.zero_le _) ?_; intro v2 w2 hown2 hk2; obtain ⟨a2, k2, rfl⟩ := row_shape hown2; have hgm : Gm wq w2 (.slice al zs.length kl) zs i (.slice a2 (N + 80) k2) 96 := Gm.app H8.out.2.2 HG.out.2.1 (by rw [HM.out.2.2.1, ← HM.out.2.2.2]; exact hown2) hk2; have H2 : Hid _ := hgm.below (w' := w2.alloc (.cells #[.slice a2 (N + 80) k2] 45)) ((Below.refl _ _).alloc (Nat.le_refl _) _); have hle2 : w.heap.size ≤ (w2.alloc (.cells #[.slice a2 (N + 80) k2] 45)).heap.size := (by have h1 := HG.out.1.kp.size; have h2 := hgm.kp.size; simp; omega); have hrow2 : (w2.alloc (.cells #[.slice a2 (N + 80) k2] 45)).ownsRow w.heap.size 45 1 (.slice ao i ko) i os := trow_at HG.out.1.row (fun b hb => (by have h3 := (HG.out.1.row.lt b hb); have h4 := H2.out.kp; refine h4.block b h3.2 fun e => ?_; have h5 := HS.out.1.ls _ (List.mem_of_getElem? HG.out.2.2.1) b e; omega)); have HR2 : Hid _ := hrow2; clear hown2 hk2 hgm hrow2)
      | (at_builtin; refine wpList_append_own_at _ rfl _ _ 32 rfl w.heap.size 45 j0 (.slice none 0 0) 1 24 Tryz.underlying32 hj0 hy0 hy1 hy2 rfl (by decide) (.slice ao i ko) i os rfl HR2.out ⟨w2.heap.size, 0, none⟩ 1 1 [.slice a2 (N + 80) k2] rfl rfl (World.news_of_block (cs := #[.slice a2 (N + 80) k2]) (t := 45) (fr := (0, 0)) (heap_alloc_new w2 _)) (one_list _ ⟨_, _, _, rfl⟩) hR1 hR8 hle2 ?_; intro v3 w3 hown3 hgrow3 hnil3 hat3; have H3 : Hid _ := And.intro hown3 (And.intro hgrow3 hat3); clear hown3 hgrow3 hnil3 hat3)
      | fail)
     have hnx : GrI w w3 bk (.slice (some ⟨gi, 0, none⟩) n ci) ls zss (i + 1) v3 (os ++ [.slice a2 (N + 80) k2]) := HG.out.1.next HS.out.1 HG.out.2.2.1 HG.out.2.2.2 H2.out H3.out.1 H3.out.2.1 (H3.out.2.2.imp_right fun e b hb => by rw [e] at hb; have := Option.some.inj hb; omega)
     have H4 : Hid _ := hnx
     clear hnx
     go_roundg (n - (i + 1))
     case measure => omega
     case rel => exact ⟨i + 1, _, rfl, by omega, by go_num, H4.out⟩
  ·obtain rfl : i = n := by omega
   have q1 : ¬ (i : Int) < (i : Int) := by omega
   have HJ : Hid _ := hG
   clear hG
   go_wp2_with fail
   go_ret
   exact ⟨_, rfl, os, HJ.out⟩
end Go.Proofs.YtplofbabfkkimaaGreatDoor
