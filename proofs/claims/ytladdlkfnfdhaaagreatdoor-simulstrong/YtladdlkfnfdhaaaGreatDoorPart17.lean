/- Texts of this claim, joined: SmSt, ErLaid, SyLent, SyArgI, SyArg, SmLaid, SmLaid4. -/
import Derived.Test.YtladdlkfnfdhaaaGreatDoorPart16
import Derived.Deep.RegionWith
import Derived.BigQuiet
import Derived.Test.YtladdlkfnfdhaaaGreatDoorRows
import Derived.Test.YtladdlkfnfdhaaaGreatDoorPart1
import Derived.ProofKit
import Derived.LaidMore
import Derived.Stop.LaidErr
import Derived.Lib.SmallJoins
import Derived.Deep.Slices
import Derived.Test.YtladdlkfnfdhaaaGreatDoorPart6
import Derived.Lib.LaidTab
namespace Go.Proofs.YtladdlkfnfdhaaaGreatDoor
section
open Go.RowKit Go.Maps
attribute [local go_sem ↓] Go.wp_at_zero Go.wp_at_succ
theorem MxAt.cellT {w w' : World} {n g : Nat} {b : Nat -> Nat} {X : Nat -> Nat -> Bool} (h : MxAt w w' n g b X n) {p q : Nat} (hp : p < n) (hq : q < n) : w'.cell? ⟨g, p, none⟩ = some (.slice (some ⟨b p, 0, none⟩) n n) /\ w'.cell? ⟨b p, q, none⟩ = some (.bool (X p q)) := by
 have h1 := h.lst.cell hp
 rw [if_pos hp] at h1
 exact ⟨h1, (h.row p hp).cell hq⟩
theorem rndT_at {n p : Nat} {out : Nat -> List Ro.St} {R : Nat} (hp : p < n) : ∃ z : Nat, (Ro.rnd n out R)[p]? = some z := ⟨_, List.getElem?_eq_getElem (by rw [Ro.rnd_len]; exact hp)⟩
theorem natI_atT {l : List Nat} {p z : Nat} (h : l[p]? = some z) : (natI l)[p]? = some (z : Int) := by simp [natI, h]
theorem edges_growT {w wr w4 : World} {B : Nat} {au : Option Addr} {N cu : Nat} {u : Value} {L : List Sy.Ed} (hB : w.heap.size <= B) (hbl : Below w.heap.size w wr) (hO : BEdges.Own wr B (.slice au N cu) L) (hN : N = L.length) (z : Sy.Ed) (hown : w4.ownsRow B 66 3 u (N + 1) (BEdges.C L ++ [.int .i64 z.1, .int .i64 z.2.1, .int .i64 z.2.2])) (hk : Kept (fun b => (Value.slice au N cu).ownBlock = some b) wr w4) : Below w.heap.size w w4 /\ BEdges.Own w4 B u (L ++ [z]) := by
 refine ⟨hbl.trans (hk.below hbl.size fun b hb => Nat.le_trans hB (hO.lt b hb).1), ?_⟩
 unfold BEdges.Own
 have e1 : (L ++ [z]).length = N + 1 := by rw [List.length_append, hN]; rfl
 rw [e1, BEdges.C_app]
 exact hown
def StT (wo wr : World) (M k s : Int) (xs : List Sy.Ed) : Prop := ∃ u, wr.heap[wo.heap.size]? = some (.cells #[.int .i64 M, .int .i64 k, .int .i64 s, u] 24 (0, 0)) /\ BEdges.Own wr (wo.heap.size + 1) u xs /\ Below wo.heap.size wo wr
theorem stT_put {wo w4 : World} {M k s : Int} {u0 u : Value} {xs : List Sy.Ed} (hg : w4.heap[wo.heap.size]? = some (.cells #[.int .i64 M, .int .i64 k, .int .i64 s, u0] 24 (0, 0))) (hO : BEdges.Own w4 (wo.heap.size + 1) u xs) (hb : Below wo.heap.size wo w4) : StT wo (w4.setCell ⟨wo.heap.size, 3, none⟩ u) M k s xs := by
 refine ⟨u, heap_setCell_same w4 wo.heap.size 3 _ _ u hg, ?_, hb.setCell (Nat.le_refl _) _⟩
 unfold BEdges.Own at hO ⊢
 exact trow_at hO fun b hx => set_other _ _ _ _ _ (by have := (hO.lt b hx).1; omega)
set_option linter.unusedSimpArgs false in
set_option maxRecDepth 100000 in
set_option maxHeartbeats 16000000 in
theorem lawStrong_any (hS : SortOk 1000000) (n k s : Int) (v : Value) (es : List Sy.Ed) (f l g : Int) (a : Addr) (w : World) (hE : EnvM w a) (hv : BEdges.Has w v es) :
 Calls Tryz.prog 4 #[sysV n k s v, .agg #[.int .i64 f, .int .i64 l, .int .i64 g]] w fun r w' => r = .returned (.bool true) /\ Below w.heap.size w w' := by
 obtain ⟨i0, hi0, hz0, hz1, hz2⟩ := info_parts BEdges.Tryz.infoE
 have hv0 := hv
 obtain ⟨ao, cap, rfl, _⟩ := hv0
 obtain ⟨L, hL⟩ : ∃ L, L = es.length := ⟨_, rfl⟩
 obtain ⟨w1, hw1⟩ : ∃ w1, w1 = (w.alloc (.cells #[.int .i64 n, .int .i64 k, .int .i64 s, .slice ao L cap] 24)).alloc (.cells #[.int .i64 f, .int .i64 l, .int .i64 g] 66) := ⟨_, rfl⟩
 have hb1 : Below w.heap.size w w1 := by rw [hw1]; exact ((Below.refl _ _).alloc (Nat.le_refl _) _).alloc (by simp) _
 have hg1 : w1.heap[w.heap.size]? = some (.cells #[.int .i64 n, .int .i64 k, .int .i64 s, .slice ao L cap] 24 (0, 0)) := by rw [hw1, Below.heap_alloc _ _ _ (by simp)]; exact heap_alloc_new w _
 have hg2 : w1.heap[w.heap.size + 1]? = some (.cells #[.int .i64 f, .int .i64 l, .int .i64 g] 66 (0, 0)) := by rw [hw1]; exact two_alloc w _ _
 have hSm := small_any17 n k s _ es a w1 (hE.below hb1).sy (hv.below hb1)
 have hvL := hv.below hb1
 rw [<- hL] at hSm hvL ⊢
 unfold sysV at hSm ⊢
 obtain ⟨x0, x1, x2, x3⟩ := four_cells9 hg1
 have f0 : w1.cell? ⟨w.heap.size + 1, 0, none⟩ = some (.int .i64 f) := cell0_of hg2 rfl
 have f1 : w1.cell? ⟨w.heap.size + 1, 1, none⟩ = some (.int .i64 l) := cell0_of hg2 rfl
 have f2 : w1.cell? ⟨w.heap.size + 1, 2, none⟩ = some (.int .i64 g) := cell0_of hg2 rfl
 obtain ⟨sm, hsm⟩ : ∃ sm, sm = smallB n k s es := ⟨_, rfl⟩
 rw [<- hsm] at hSm
 have H1 : Hid _ := And.intro hSm (And.intro hb1 (And.intro hw1 (And.intro hg1 (And.intro (hE.below hb1) (And.intro hvL (And.intro hsm hL))))))
 have HF : Hid _ := And.intro f0 (And.intro f1 f2)
 have hsz : w1.heap.size = w.heap.size + 2 := by rw [hw1]; simp
 clear hE hv hvL hSm hb1 hw1 hL hg1 hg2 hsm f0 f1 f2
 go_enter Tryz.func4, Tryz.ntmps4
 go_upto_region 1 with fail
 rw [<- H1.out.2.2.1]
 cases sm
 ·go_wp2_with (first
   | (go_at_call 22; refine Calls.mono H1.out.1 ?_; rintro r w2 ⟨rfl, hb2⟩; have H2 : Hid _ := hb2; clear hb2)
   | (have hq := H2.out; go_at_call 6; refine Calls.mono (alive17_any hS a _ (H1.out.2.2.2.2.1.below H2.out)) ?_; rintro r w3 ⟨rfl, hb3⟩; have H3 : Hid _ := hb3; clear hb3 hq))
  go_ret
  exact ⟨rfl, H1.out.2.1.trans ((H2.out.trans (H3.out.mono H2.out.size)).mono H1.out.2.1.size)⟩
 ·have hsm := H1.out.2.2.2.2.2.2.1.symm
  unfold smallB at hsm
  rw [Bool.and_eq_true, Bool.and_eq_true, decide_eq_true_eq, decide_eq_true_eq] at hsm
  obtain ⟨⟨hn25, hL150⟩, hq⟩ := hsm
  have hp9 := right_parts hq
  obtain ⟨m, rfl⟩ : ∃ m : Nat, n = (m : Int) := ⟨n.toNat, by omega⟩
  obtain ⟨kk, rfl⟩ : ∃ kk : Nat, k = (kk : Int) := ⟨k.toNat, by omega⟩
  have hAb := fun W (hb : Below w1.heap.size w1 W) => labove_ok hS m kk s (.slice ao L cap) es a W (H1.out.2.2.2.2.1.below hb) (H1.out.2.2.2.2.2.1.below hb) (by omega) hq (by omega)
  have hCl := fun W (hb : Below w1.heap.size w1 W) => sclasses_ok hS m kk s (.slice ao L cap) es a W (H1.out.2.2.2.2.1.below hb).sy (H1.out.2.2.2.2.2.1.below hb) (by omega) hq
  unfold sysV at hAb hCl
  have HQ : Hid _ := And.intro hAb (And.intro hCl (And.intro hq hL150))
  have hm25 : m <= 25 := by omega
  clear hAb hCl hp9 hq hL150 hn25
  go_upto_region 3 with (go_at_call 22; refine Calls.mono H1.out.1 ?_; rintro r w2 ⟨rfl, hb2⟩; have y0 := cell_up x0 hb2; have y1 := cell_up x1 hb2; have y2 := cell_up x2 hb2; have y3 := cell_up x3 hb2; have H2 : Hid _ := hb2; clear hb2)
  clear x0 x1 x2 x3
  go_upto_region 4 with (go_at_call 23; refine Calls.mono (HQ.out.1 _ H2.out) ?_; rintro r w3 ⟨g9, b, rfl, hM⟩; have x0 := cell_up y0 hM.bl; have x1 := cell_up y1 hM.bl; have x2 := cell_up y2 hM.bl; have x3 := cell_up y3 hM.bl; have H3 : Hid (MxAt w2 w3 m g9 b (simB (EE es)) m) := hM; clear hM)
  clear y0 y1 y2 y3
  go_upto_region 5 with (go_at_call 24; refine Calls.mono (HQ.out.2.1 _ (H2.out.trans (H3.out.bl.mono H2.out.size))) ?_; rintro r w4 ⟨u, R, rfl, hR, hO, hb4⟩; obtain ⟨au, cu, hu⟩ := row_shape hO; rw [show (natI (Ro.rnd m (fun i => Sy.rowOf m (Sy.nf es) (i : Int)) R)).length = m by rw [show ∀ l : List Nat, (natI l).length = l.length from fun l => by simp [natI], Ro.rnd_len]] at hu; subst hu; have y0 := cell_up x0 hb4; have y1 := cell_up x1 hb4; have y2 := cell_up x2 hb4; have y3 := cell_up x3 hb4; have H4 : Hid _ := And.intro hO (And.intro hR hb4); clear hO hR hb4)
  clear x0 x1 x2 x3
  have H5 : Hid (MxAt w2 w4 m g9 b (simB (EE es)) m) := H3.out.below H4.out.2.2
  go_wp2_with fail
  go_loopg [9] m (fun q iv wr => ∃ p : Nat, q = m - p /\ p <= m /\ iv = .int .i64 p /\ Below w4.heap.size w4 wr)
  case atStart => exact ⟨0, rfl, Nat.zero_le _, rfl, Below.refl _ _⟩
  case round =>
   obtain ⟨p, rfl, hp, rfl, hbP⟩ := hrel
   obtain ⟨wo, rfl⟩ : ∃ wo, wo = wr := ⟨_, rfl⟩
   have x0 := cell_up y0 hbP
   by_cases hlt : p < m
   ·have q0 : (0 : Int) <= (p : Int) := by omega
    have q1 : (p : Int) < (m : Int) := by omega
    have HP : Hid (Below w4.heap.size w4 wo) := hbP
    clear hbP
    go_wp2_with fail
    go_loopg [10] m (fun z iv wr => ∃ q : Nat, z = m - q /\ q <= m /\ iv = .int .i64 q /\ Below w4.heap.size w4 wr)
    case atStart => exact ⟨0, rfl, Nat.zero_le _, rfl, HP.out⟩
    case round =>
     obtain ⟨q, rfl, hq, rfl, hbQ⟩ := hrel
     obtain ⟨wi, rfl⟩ : ∃ wi, wi = wr := ⟨_, rfl⟩
     clear x0
     have x0 := cell_up y0 hbQ
     by_cases hlq : q < m
     ·have q2 : (0 : Int) <= (q : Int) := by omega
      have q3 : (q : Int) < (m : Int) := by omega
      obtain ⟨c1, c2⟩ := (H5.out.below hbQ).cellT hlt hlq
      obtain ⟨zp, hzp⟩ := rndT_at (n := m) (out := fun i => Sy.rowOf m (Sy.nf es) (i : Int)) (R := R) hlt
      obtain ⟨zq, hzq⟩ := rndT_at (n := m) (out := fun i => Sy.rowOf m (Sy.nf es) (i : Int)) (R := R) hlq
      obtain ⟨gs, hgs, e1⟩ := own_num H4.out.1 (natI_atT hzp)
      have hgs2 := hgs
      obtain ⟨gs', hgs', e2⟩ := own_num H4.out.1 (natI_atT hzq)
      rw [hgs] at hgs'
      injection hgs' with hgs'
      obtain rfl : gs = gs' := (congrArg Addr.block hgs' : _)
      subst hgs
      clear hgs2 hgs'
      have d1 := cell_up e1 hbQ
      have d2 := cell_up e2 hbQ
      have hcl : zp = zq -> simB (EE es) p q = true := fun e => by
       rw [simB_iff]
       exact same_sims HQ.out.2.2.1 H4.out.2.1 hzp (e ▸ hzq)
      generalize simB (EE es) p q = xb at c2 hcl
      have HB : Hid _ := hbQ
      have hsp : ((zp : Int) == (zq : Int)) = true /\ xb = true \/ ((zp : Int) == (zq : Int)) = false := by
       by_cases h : zp = zq
       ·exact .inl ⟨by simp [h], hcl h⟩
       ·exact .inr (by simp; omega)
      clear hbQ hcl hzp hzq e1 e2
      rcases hsp with ⟨f1, rfl⟩ | f1
      all_goals
       go_wp2_with fail
       go_quiet (fail)
       go_wp2_with fail
       go_roundg (m - (q + 1))
       case measure => omega
       case rel => exact ⟨q + 1, rfl, by omega, by go_num, below_drewN HB.out _⟩
     ·obtain rfl : m = q := by omega
      have q3 : ¬ (m : Int) < (m : Int) := by omega
      have HR : Hid _ := hbQ
      clear hbQ
      go_wp2_with fail
      go_roundg (m - (p + 1))
      case measure => omega
      case rel => exact ⟨p + 1, rfl, by omega, by go_num, HR.out⟩
   ·obtain rfl : m = p := by omega
    have q1 : ¬ (m : Int) < (m : Int) := by omega
    clear x0
    have x0 := cell_up y0 hbP
    have x1 := cell_up y1 hbP
    have x2 := cell_up y2 hbP
    have x3 := cell_up y3 hbP
    clear y0 y1 y2 y3
    have HP : Hid _ := And.intro hbP (And.intro x0 (And.intro x1 (And.intro x2 x3)))
    have h12 := H2.out.trans ((H3.out.bl.trans (H4.out.2.2.mono H3.out.bl.size)).mono H2.out.size)
    have hbo : Below w1.heap.size w1 wo := h12.trans (hbP.mono h12.size)
    have HO : Hid _ := And.intro hbo (And.intro (cell_up HF.out.1 hbo) (And.intro (cell_up HF.out.2.1 hbo) (cell_up HF.out.2.2 hbo)))
    clear hbP h12 hbo
    go_upto_region 16 with fail
    obtain ⟨wT, hwT⟩ : ∃ wT, wT = wo.alloc (.cells #[.int .i64 m, .int .i64 kk, .int .i64 s, .slice ao L cap] 24) := ⟨_, rfl⟩
    rw [<- hwT]
    have hbT : Below wo.heap.size wo wT := by rw [hwT]; exact (Below.refl _ _).alloc (Nat.le_refl _) _
    have hgT : wT.heap[wo.heap.size]? = some (.cells #[.int .i64 m, .int .i64 kk, .int .i64 s, .slice ao L cap] 24 (0, 0)) := by rw [hwT]; exact heap_alloc_new wo _
    clear x0 x1 x2 x3
    have x0 := cell_up HP.out.2.1 hbT
    have z0 := blk_free hgT 0
    have t0 := cell0_of (k := 0) hgT rfl
    obtain ⟨M, hM⟩ : ∃ M, M = m + 1 := ⟨_, rfl⟩
    have p4 : IntKind.i64.wrap ((m : Int) + 1) = (M : Int) := by rw [IntKind.wrap_i64]; omega
    have HT : Hid _ := And.intro hbT (And.intro hgT hM)
    clear hwT hbT hgT hM
    go_upto_region 17 with fail
    obtain ⟨wU, hwU⟩ : ∃ wU, wU = wT.setCell ⟨wo.heap.size, 0, none⟩ (.int .i64 M) := ⟨_, rfl⟩
    rw [<- hwU]
    have hbU : Below wo.heap.size wo wU := by rw [hwU]; exact HT.out.1.setCell (Nat.le_refl _) _
    have hgU : wU.heap[wo.heap.size]? = some (.cells #[.int .i64 M, .int .i64 kk, .int .i64 s, .slice ao L cap] 24 (0, 0)) := by rw [hwU]; exact heap_setCell_same wT wo.heap.size 0 _ _ _ HT.out.2.1
    have hvU := (H1.out.2.2.2.2.2.1.below H2.out).below (H3.out.bl.trans (H4.out.2.2.mono H3.out.bl.size))
    have hvo := hvU.below HP.out.1
    have hC := BEdges.copy_of (hvo.below hbU)
    have hcl : (BEdges.C es).length = L * 3 := by rw [BEdges.C_len, H1.out.2.2.2.2.2.2.2]
    have hL150 : L <= 150 := by rw [H1.out.2.2.2.2.2.2.2]; exact HQ.out.2.2.2
    have hL1 : L <= maxLen := by unfold maxLen; omega
    have hL8 : L * 24 <= 140737488355328 := by omega
    have hle1 : wo.heap.size + 1 <= wU.heap.size := t_lt hgU
    clear x0 z0 t0
    have x3 := cell_up HP.out.2.2.2.2 hbU
    have HU : Hid _ := And.intro hbU (And.intro hgU (And.intro hC (And.intro hcl hvo)))
    clear hbU hgU hC hcl hwU hvU hvo
    go_upto_region 18 with (at_builtin; refine wpList_copy_at _ rfl _ _ 22 rfl (wo.heap.size + 1) 66 i0 (.agg #[.int .i64 0, .int .i64 0, .int .i64 0]) 3 24 Tryz.underlying22 hi0 hz0 hz1 hz2 rfl (by decide) rfl ao L cap (BEdges.C es) rfl HU.out.2.2.1.1 HU.out.2.2.2.1 HU.out.2.2.1.2 (BEdges.C_one _) hL1 hL8 hle1 ?_; intro v2 w5 hown2 hgrow2 hat2; obtain ⟨a2, c2, rfl⟩ := row_shape hown2; have hg5 := ((tgrown0 hgrow2).block _ (t_lt HU.out.2.1)).trans HU.out.2.1; have z3 := blk_free hg5 3; have t3 := cell0_of (k := 3) hg5 rfl; have H6 : Hid _ := And.intro hown2 (And.intro (tgrown0 hgrow2) hg5); clear hown2 hgrow2 hat2 hg5)
    have hst : StT wo (w5.setCell ⟨wo.heap.size, 3, none⟩ (.slice a2 L c2)) M kk s es := stT_put H6.out.2.2 (by unfold BEdges.Own; rw [<- H1.out.2.2.2.2.2.2.2]; exact H6.out.1) (HU.out.1.trans (H6.out.2.1.mono HU.out.1.size))
    generalize w5.setCell ⟨wo.heap.size, 3, none⟩ (.slice a2 L c2) = w6 at hst ⊢
    clear x3 z3 t3
    have x3 := cell_up HP.out.2.2.2.2 hst.choose_spec.2.2
    have HS : Hid _ := hst
    clear hst
    go_wp2_with fail
    go_loopg [86] L (fun q jv wr => ∃ j : Nat, q = L - j /\ j <= L /\ jv = .int .i64 j /\ StT wo wr M kk s (es ++ cpE m f (es.take j)))
    case atStart => exact ⟨0, rfl, Nat.zero_le _, rfl, by rw [List.take_zero]; show StT wo _ M kk s (es ++ []); rw [List.append_nil]; exact HS.out⟩
    case round =>
     obtain ⟨j, rfl, hj, rfl, u, hgt, hOt, hbt⟩ := hrel
     clear x3
     obtain ⟨au2, cu2, rfl⟩ := row_shape hOt
     obtain ⟨N, hN⟩ : ∃ N, N = (es ++ cpE m f (es.take j)).length := ⟨_, rfl⟩
     rw [<- hN] at hgt hOt
     have hNl : N <= L + L := by
      have h1 := cpE_len m f (es.take j)
      rw [List.length_take] at h1
      rw [List.length_append] at hN
      have := H1.out.2.2.2.2.2.2.2
      omega
     have hml : N + 1 <= maxLen := by unfold maxLen; omega
     have hby : (N + 1) * 24 <= 140737488355328 := by omega
     by_cases hlt2 : j < L
     ·obtain ⟨e, he⟩ : ∃ e, es[j]? = some e := ⟨es[j]'(by have := H1.out.2.2.2.2.2.2.2; omega), List.getElem?_eq_getElem _⟩
      obtain ⟨a0, ha0, e0, e1, e2⟩ := edge_at (HU.out.2.2.2.2.below hbt) he
      subst ha0
      have htk : es.take (j + 1) = es.take j ++ [e] := by rw [List.take_add_one, he]; rfl
      obtain ⟨⟨ep, el, et⟩, rfl⟩ : ∃ e', e' = e := ⟨_, rfl⟩
      simp only at e0 e1 e2
      have g0 : (0 : Int) <= (j : Int) := by omega
      have g1 : (j : Int) < (L : Int) := by omega
      have g2 : IntKind.i64.wrap ((j : Int) + 1) = (j : Int) + 1 := by rw [IntKind.wrap_i64]; omega
      have HA : Hid _ := And.intro hgt (And.intro hOt (And.intro hbt (And.intro hN htk)))
      clear hgt hOt hbt hN htk he
      go_upto_region 21 with fail
      obtain ⟨w7, hw7⟩ : ∃ w7, w7 = wr.alloc (.cells #[.int .i64 ep, .int .i64 el, .int .i64 et] 66) := ⟨_, rfl⟩
      rw [<- hw7]
      have hb7 : Below wr.heap.size wr w7 := by rw [hw7]; exact (Below.refl _ _).alloc (Nat.le_refl _) _
      have hgx : w7.heap[wr.heap.size]? = some (.cells #[.int .i64 ep, .int .i64 el, .int .i64 et] 66 (0, 0)) := by rw [hw7]; exact heap_alloc_new wr _
      clear e0 e1 e2 hw7
      have c0 := cell0_of (k := 0) hgx rfl
      have c1 := cell0_of (k := 1) hgx rfl
      have c2 := cell0_of (k := 2) hgx rfl
      have hbw : Below wo.heap.size wo w7 := HA.out.2.2.1.trans (hb7.mono HA.out.2.2.1.size)
      have f0 := cell_up HO.out.2.1 hbw
      have x0 := cell_up HP.out.2.1 hbw
      have hg7 := (hb7.block _ (t_lt HA.out.1)).trans HA.out.1
      have t3 := cell0_of (k := 3) hg7 rfl
      have hO7 : w7.ownsRow (wo.heap.size + 1) 66 3 (.slice au2 N cu2) N (BEdges.C (es ++ cpE m f (es.take j))) := by
       have h1 := HA.out.2.1
       unfold BEdges.Own at h1
       rw [<- HA.out.2.2.2.1] at h1
       exact trow_at h1 fun b hx => hb7.block b (h1.lt b hx).2
      have hle : wo.heap.size + 1 <= (w7.alloc (.cells #[.int .i64 m, .int .i64 el, .int .i64 et] 66)).heap.size := by have := t_lt hg7; rw [World.size_alloc]; omega
      have HW : Hid _ := And.intro hO7 (And.intro hg7 hbw)
      clear hO7 hg7 hbw hgx hb7
      by_cases hpf : ep = f
      ·have hpf2 : (ep == f) = true := by simp [hpf]
       have HX : Hid _ := hpf
       clear hpf
       go_wp2_with (at_builtin; refine wpList_append_own_at _ rfl _ _ 22 rfl (wo.heap.size + 1) 66 i0 (.agg #[.int .i64 0, .int .i64 0, .int .i64 0]) 3 24 Tryz.underlying22 hi0 hz0 hz1 hz2 rfl (by decide) (.slice au2 N cu2) N (BEdges.C (es ++ cpE m f (es.take j))) rfl (HW.out.1.alloc _) ⟨w7.heap.size, 0, none⟩ 1 1 [.int .i64 m, .int .i64 el, .int .i64 et] rfl rfl (World.news_of_block (cs := #[.int .i64 m, .int .i64 el, .int .i64 et]) (t := 66) (fr := (0, 0)) (heap_alloc_new w7 _)) (by simp [Value.oneCell']) hml hby hle ?_; intro v8 w8 hO8 hg8 hnil8 hat8; obtain ⟨a8, c8, rfl⟩ := row_shape hO8; have hk8 := grown_alloc hg8; have hgt8 := (hk8.block _ (t_lt HW.out.2.1) fun e => by have := (HW.out.1.lt _ e).1; omega).trans HW.out.2.1; have z3 := blk_free hgt8 3; have t4 := cell0_of (k := 3) hgt8 rfl; have H8 : Hid _ := And.intro hO8 (And.intro hk8 hgt8); clear hO8 hg8 hk8 hnil8 hat8 hgt8)
       go_roundg (L - (j + 1))
       case measure => omega
       case rel =>
        have h1 := edges_growT (w := wo) (B := wo.heap.size + 1) (by omega) HW.out.2.2 (L := es ++ cpE m f (es.take j)) (by unfold BEdges.Own; rw [<- HA.out.2.2.2.1]; exact HW.out.1) HA.out.2.2.2.1 ((m : Int), el, et) H8.out.1 H8.out.2.1
        refine ⟨j + 1, rfl, by omega, by go_num, ?_⟩
        rw [HA.out.2.2.2.2, cpE_snoc, if_pos HX.out, <- List.append_assoc]
        exact stT_put H8.out.2.2 h1.2 h1.1
      ·have hpf2 : (ep == f) = false := by simp [hpf]
       have HX : Hid _ := hpf
       go_wp2_with fail
       go_roundg (L - (j + 1))
       case measure => omega
       case rel =>
        refine ⟨j + 1, rfl, by omega, by go_num, ?_⟩
        rw [HA.out.2.2.2.2, cpE_snoc, if_neg HX.out]
        exact ⟨_, HW.out.2.1, by unfold BEdges.Own; rw [<- HA.out.2.2.2.1]; exact HW.out.1, HW.out.2.2⟩
     ·obtain rfl : L = j := by omega
      have g1 : ¬ (L : Int) < (L : Int) := by omega
      have f1 := cell_up HO.out.2.2.1 hbt
      have f2 := cell_up HO.out.2.2.2 hbt
      have x0 := cell_up HP.out.2.1 hbt
      have t3 := cell0_of (k := 3) hgt rfl
      have hle : wo.heap.size + 1 <= (wr.alloc (.cells #[.int .i64 m, .int .i64 l, .int .i64 g] 66)).heap.size := by have := t_lt hgt; rw [World.size_alloc]; omega
      have htk : es.take L = es := List.take_of_length_le (by have := H1.out.2.2.2.2.2.2.2; omega)
      rw [htk] at hOt hN
      have hO7 : wr.ownsRow (wo.heap.size + 1) 66 3 (.slice au2 N cu2) N (BEdges.C (es ++ cpE m f es)) := by
       have h1 := hOt
       unfold BEdges.Own at h1
       rw [<- hN] at h1
       exact h1
      have HW : Hid _ := And.intro hO7 (And.intro hgt (And.intro hbt hN))
      clear hO7 hgt hbt hOt htk hN
      go_upto_region 25 with (at_builtin; refine wpList_append_own_at _ rfl _ _ 22 rfl (wo.heap.size + 1) 66 i0 (.agg #[.int .i64 0, .int .i64 0, .int .i64 0]) 3 24 Tryz.underlying22 hi0 hz0 hz1 hz2 rfl (by decide) (.slice au2 N cu2) N (BEdges.C (es ++ cpE m f es)) rfl (HW.out.1.alloc _) ⟨wr.heap.size, 0, none⟩ 1 1 [.int .i64 m, .int .i64 l, .int .i64 g] rfl rfl (World.news_of_block (cs := #[.int .i64 m, .int .i64 l, .int .i64 g]) (t := 66) (fr := (0, 0)) (heap_alloc_new wr _)) (by simp [Value.oneCell']) hml hby hle ?_; intro v8 w8 hO8 hg8 hnil8 hat8; obtain ⟨a8, c8, rfl⟩ := row_shape hO8; have hk8 := grown_alloc hg8; have hgt8 := (hk8.block _ (t_lt HW.out.2.1) fun e => by have := (HW.out.1.lt _ e).1; omega).trans HW.out.2.1; have z3 := blk_free hgt8 3; have t4 := cell0_of (k := 3) hgt8 rfl; have H8 : Hid _ := And.intro hO8 (And.intro hk8 hgt8); clear hO8 hg8 hk8 hnil8 hat8 hgt8)
      have h1 := edges_growT (w := wo) (B := wo.heap.size + 1) (by omega) HW.out.2.2.1 (L := es ++ cpE m f es) (by unfold BEdges.Own; rw [<- HW.out.2.2.2]; exact HW.out.1) HW.out.2.2.2 ((m : Int), l, g) H8.out.1 H8.out.2.1
      have hst : StT wo (w8.setCell ⟨wo.heap.size, 3, none⟩ (.slice a8 (N + 1) c8)) M kk s (addE m es (f, l, g)) := stT_put H8.out.2.2 h1.2 h1.1
      generalize w8.setCell ⟨wo.heap.size, 3, none⟩ (.slice a8 (N + 1) c8) = w9 at hst ⊢
      clear h1 z3 t3 t4 x0 f1 f2
      obtain ⟨u9, hg9, hO9, hb9⟩ := hst
      have hv9 := hO9.has
      obtain ⟨a9, c9, rfl⟩ := row_shape hO9
      obtain ⟨N9, hN9⟩ : ∃ N9, N9 = (addE m es (f, l, g)).length := ⟨_, rfl⟩
      rw [<- hN9] at hg9 hv9
      obtain ⟨t0, t1, t2, t3⟩ := four_cells9 hg9
      have x0 := cell_up HP.out.2.1 hb9
      have f0 := cell_up HO.out.2.1 hb9
      have hb19 : Below w1.heap.size w1 w9 := HO.out.1.trans (hb9.mono HO.out.1.size)
      have hE9 := H1.out.2.2.2.2.1.below hb19
      have hCk := check_any M kk s (.slice a9 N9 c9) (addE m es (f, l, g)) a w9 hE9.sy hv9
      obtain ⟨ok, hok⟩ : ∃ ok, ok = Sy.right M kk s (addE m es (f, l, g)) := ⟨_, rfl⟩
      rw [<- hok] at hCk
      unfold sysV at hCk
      have hAl := fun W (hb : Below w9.heap.size w9 W) => alive17_any hS a W (hE9.below hb)
      have hlen9 : N9 <= 1000 := by
       have h1 := cpE_len m (f, l, g).1 es
       rw [hN9]
       unfold addE
       rw [List.length_append, List.length_append, List.length_singleton]
       have := H1.out.2.2.2.2.2.2.2
       omega
      have HC : Hid _ := And.intro hCk (And.intro hAl (And.intro hok (And.intro hv9 (And.intro hE9 (And.intro hb19 (And.intro hN9 hlen9))))))
      clear hCk hAl hok hv9 hE9 hb19 hg9 hO9 hb9 hN9 hlen9
      cases ok
      ·go_wp2_with (first
        | (go_at_call 25; refine Calls.mono HC.out.1 ?_; rintro r wa ⟨x, rfl, hx, hba⟩; obtain ⟨bx, ux, rfl, _, _⟩ := hx; have H9 : Hid _ := hba; clear hba)
        | (have hq := H9.out; go_at_call 6; refine Calls.mono (HC.out.2.1 _ H9.out) ?_; rintro r wb ⟨rfl, hbb⟩; have HB : Hid _ := hbb; clear hbb hq))
       go_ret
       have h2 := H1.out.2.1.trans (HC.out.2.2.2.2.2.1.mono H1.out.2.1.size)
       exact ⟨rfl, h2.trans ((H9.out.trans (HB.out.mono H9.out.size)).mono h2.size)⟩
      ·by_cases hf : 0 <= f /\ f < (m : Int)
       ·obtain ⟨p, rfl⟩ : ∃ p : Nat, f = (p : Int) := ⟨f.toNat, by omega⟩
        have k0 : ¬ (p : Int) < 0 := by omega
        have k1 : ¬ (m : Int) <= (p : Int) := by omega
        have hBl := fun W (hb : Below w9.heap.size w9 W) => mbelow_ok hS M kk p m s (.slice a9 N9 c9) (addE m es ((p : Int), l, g)) a W (HC.out.2.2.2.2.1.below hb).sy (HC.out.2.2.2.2.1.below hb).tab (HC.out.2.2.2.1.below hb) (by rw [<- HC.out.2.2.2.2.2.2.1]; have := HC.out.2.2.2.2.2.2.2; omega) HC.out.2.2.1.symm (by have := HT.out.2.2; omega) (by have := HT.out.2.2; omega) (by have := HT.out.2.2; omega)
        unfold sysV at hBl
        have HBl : Hid _ := And.intro hBl (add_sims (n := m) (p := p) (es := es) (e := ((p : Int), l, g)) rfl (by omega))
        clear hBl
        go_upto_region 27 with (go_at_call 25; refine Calls.mono HC.out.1 ?_; rintro r wa ⟨x, rfl, hx, hba⟩; have hx2 : x = .nilIface := hx; subst hx2; have y0 := cell_up t0 hba; have y1 := cell_up t1 hba; have y2 := cell_up t2 hba; have y3 := cell_up t3 hba; have v0 := cell_up x0 hba; have g0 := cell_up f0 hba; have H9 : Hid _ := hba; clear hba hx)
        clear t0 t1 t2 t3 x0 f0
        go_wp2_with (first
         | (go_at_call 19; refine Calls.mono (HBl.out.1 _ H9.out) ?_; rintro r wb ⟨bb, rfl, hbb, hb10⟩; obtain rfl : true = bb := (hbb.2 HBl.out.2).symm; have HB : Hid _ := H9.out.trans (hb10.mono H9.out.size); clear hbb hb10)
         | (have hq := HB.out; go_at_call 6; refine Calls.mono (HC.out.2.1 _ HB.out) ?_; rintro r wc ⟨rfl, hbc⟩; have HD : Hid _ := hbc; clear hbc hq))
        go_ret
        have h2 := H1.out.2.1.trans (HC.out.2.2.2.2.2.1.mono H1.out.2.1.size)
        exact ⟨rfl, h2.trans ((HB.out.trans (HD.out.mono HB.out.size)).mono h2.size)⟩
       ·have hff : f < 0 \/ ¬ f < 0 /\ (m : Int) <= f := by omega
        clear hf
        rcases hff with k0 | ⟨k0, k1⟩
        all_goals
         go_wp2_with (first
          | (go_at_call 25; refine Calls.mono HC.out.1 ?_; rintro r wa ⟨x, rfl, hx, hba⟩; have hx2 : x = .nilIface := hx; subst hx2; have v0 := cell_up x0 hba; have g0 := cell_up f0 hba; have H9 : Hid _ := hba; clear hba hx)
          | (have hq := H9.out; go_at_call 6; refine Calls.mono (HC.out.2.1 _ H9.out) ?_; rintro r wb ⟨rfl, hbb⟩; have HB : Hid _ := hbb; clear hbb hq))
         go_ret
         have h2 := H1.out.2.1.trans (HC.out.2.2.2.2.2.1.mono H1.out.2.1.size)
         exact ⟨rfl, h2.trans ((H9.out.trans (HB.out.mono H9.out.size)).mono h2.size)⟩
end
section
open Go.ChangeShapes Go.WideShapes Go.ChangeAt Go.WideMaps Go.WideElems Go.RowKit
theorem Tryz.own : ownKnob Tryz.prog.godebug = none := by kernel_rfl
theorem Tryz.laidOut : laidOutB Tryz.prog = true := by kernel_rfl
theorem Tryz.cellsE : Tryz.prog.cellsOf 329 = 1 := by kernel_rfl
theorem Tryz.cellsS : Tryz.prog.cellsOf 9 = 1 := by kernel_rfl
set_option maxRecDepth 100000 in
theorem Tryz.star : "*" ++ "errors.errorString" = "*errors.errorString" := by decide
set_option maxRecDepth 100000 in
theorem Tryz.rowE (u : TypeId) (h : Tryz.prog.typeName? 3 u = some "*errors.errorString") : u = 309 :=
 typeName_ptr_named (nm := "errors.errorString") (by rw [Tryz.star]; kernel_rfl) (by kernel_rfl) (by decide) u (by rw [Tryz.star]; exact h)
set_option maxRecDepth 100000 in
theorem laid_step {W : World} {n : String} {g : Nat} {text : List UInt8} {r : List (String × DataW Unit)} {ps : List MemPlace} (hg : Tryz.prog.globalNamed n = some g) (ht : (Tryz.prog.globals[g]?).map (·.type) = some 47)
 (h : DataW.LaidVars Tryz.prog W ((n, .iface "*errors.errorString" (.ptr (.agg [.lit (.string text)]))) :: r) ps)
 (hrows : ∀ b off, MemPlace.cell b off ∈ ps -> (∃ c t, W.heap[b]? = some (.cells c t (0, 0))) /\ ∀ u v, W.cell? ⟨b, off, none⟩ = some (.iface u v) -> Value.okWide Tryz.prog W .any 0 u v) :
 ∃ a q, Sent W g a /\ DataW.LaidVars Tryz.prog W r q /\ ps = MemPlace.cell g 0 :: MemPlace.cell a.block a.off :: q := by
 obtain ⟨g0, t0, cs0, f0, p0, q0, hg0, ht0, hv0, hd0, hr, e0⟩ := h
 obtain rfl := Option.some.inj (hg.symm.trans hg0)
 obtain rfl := Option.some.inj (ht.symm.trans ht0)
 subst e0
 obtain ⟨l0⟩ := cs0
 have ok0 : ∀ u v, l0 = [.iface u v] -> Value.okWide Tryz.prog W .any 0 u v := fun u v e => by
  subst e
  exact (hrows g 0 (by simp [MemPlace.row])).2 u v (by simpa using World.var?_cell hg0 hv0 0)
 obtain ⟨a0, s0, rfl, hc0, hs0, hz0, rfl⟩ := errorString_of_trod Tryz.underlying47 Tryz.rowE Tryz.underlying309 Tryz.underlying329 rfl rfl Tryz.underlying9 Tryz.cellsE Tryz.cellsS hd0 ok0
 refine ⟨a0, q0, ⟨by simpa using World.var?_cell hg0 hv0 0, (hrows a0.block a0.off (by simp [MemPlace.row])).1⟩, hr, ?_⟩
 simp [MemPlace.row]
abbrev LE : Type := String × Nat × List UInt8
def leV (x : LE) : String × DataW Unit := (x.1, .iface "*errors.errorString" (.ptr (.agg [.lit (.string x.2.2)])))
theorem laid_list {W : World} {r : List (String × DataW Unit)} : ∀ (xs : List LE) (ps : List MemPlace), (∀ x ∈ xs, Tryz.prog.globalNamed x.1 = some x.2.1 /\ (Tryz.prog.globals[x.2.1]?).map (·.type) = some 47) ->
 DataW.LaidVars Tryz.prog W (xs.map leV ++ r) ps -> (∀ b off, MemPlace.cell b off ∈ ps -> (∃ c t, W.heap[b]? = some (.cells c t (0, 0))) /\ ∀ u v, W.cell? ⟨b, off, none⟩ = some (.iface u v) -> Value.okWide Tryz.prog W .any 0 u v) ->
 ∃ ads : List Addr, ads.length = xs.length /\ (∀ (i : Nat) (x : LE) (a : Addr), xs[i]? = some x -> ads[i]? = some a -> Sent W x.2.1 a) /\ (∀ a ∈ ads, MemPlace.cell a.block a.off ∈ ps) /\ (ps.Nodup -> ads.Pairwise (· ≠ ·))
 | [], ps, _, _, _ => ⟨[], rfl, fun i x a h => by simp at h, fun a h => by simp at h, fun _ => List.Pairwise.nil⟩
 | x :: xs, ps, hx, h, hr => by
   obtain ⟨a, q, hs, hq, rfl⟩ := laid_step (hx x List.mem_cons_self).1 (hx x List.mem_cons_self).2 h hr
   obtain ⟨ads, h1, h2, h3, h4⟩ := laid_list xs q (fun y hy => hx y (List.mem_cons_of_mem _ hy)) hq (fun b off hb => hr b off (List.mem_cons_of_mem _ (List.mem_cons_of_mem _ hb)))
   refine ⟨a :: ads, by simp [h1], fun i y b hy hb => ?_, fun b hb => ?_, fun hn => ?_⟩
   ·cases i with
    | zero => simp at hy hb; subst hy; subst hb; exact hs
    | succ i => exact h2 i y b (by simpa using hy) (by simpa using hb)
   ·rcases List.mem_cons.1 hb with rfl | hb
    ·exact List.mem_cons_of_mem _ List.mem_cons_self
    ·exact List.mem_cons_of_mem _ (List.mem_cons_of_mem _ (h3 b hb))
   ·have hn2 := (List.nodup_cons.1 hn).2
    have hn3 := List.nodup_cons.1 hn2
    exact List.Pairwise.cons (fun b hb e => hn3.1 (by rw [e]; exact h3 b hb)) (h4 hn3.2)
end
section
open Go.RowKit Go.Maps
attribute [local go_sem ↓] Go.wp_at_zero Go.wp_at_succ
def mk3 : List Sy.Ed := [(-7, 0, 0), (-7, 1, 0), (-7, 2, 0)]
def LentE (w : World) (B : Nat) (u : Value) (es : List Sy.Ed) : Prop := ∃ g cap, u = .slice (some ⟨g, 0, none⟩) es.length cap /\ es.length + 3 <= cap /\ BEdges.Own w B (.slice (some ⟨g, 0, none⟩) (es.length + 3) cap) (es ++ mk3)
end
section
open Go.ChangeShapes Go.WideShapes Go.ChangeAt Go.WideMaps Go.WideElems Go.RowKit
theorem Tryz.cIntE : Tryz.prog.cellsOf 3 = 1 := by kernel_rfl
end
section
open Go.ChangeShapes Go.WideShapes Go.ChangeAt Go.WideMaps Go.WideElems Go.RowKit
theorem Tryz.cEdge : Tryz.prog.cellsOf 66 = 3 := by kernel_rfl
theorem Tryz.cSys : Tryz.prog.cellsOf 24 = 4 := by kernel_rfl
theorem ed_choose {n : Nat} {p : Nat -> Sy.Ed -> Prop} (h : ∀ i, i < n -> ∃ x, p i x) : ∃ f : Nat -> Sy.Ed, ∀ i, i < n -> p i (f i) := by
 classical
 refine ⟨fun i => if hi : i < n then Classical.choose (h i hi) else (0, 0, 0), fun i hi => ?_⟩
 simp only [hi, dif_pos]
 exact Classical.choose_spec (h i hi)
set_option maxRecDepth 100000 in
theorem edge_in {H : Type} {enc : TypeId × Value -> H} {W : World} {fuel i : Nat} {a : Addr} {cs : List Value} {x : DataW H × List MemPlace} (hc : W.cells? 0 (a.add (i * 3)) 3 = some cs) (h : DataW.trod enc Tryz.prog W 0 (fun _ => true) true fuel 66 cs = some x) :
 ∃ z : Sy.Ed, ∀ q u, (BEdges.enc z)[q]? = some u -> W.cell? (a.add (i * 3 + q)) = some u := by
 obtain ⟨_, hlen, hcell⟩ := World.cells?_some hc
 obtain ⟨xs, k, hk, _, _, hxl, hf⟩ := DataW.trod_struct Tryz.underlying66 h
 match xs, hxl, cs, hlen with
 | [y0, y1, y2], _, [v0, v1, v2], _ =>
   have g0 := hf 0 _ rfl
   have g1 := hf 1 _ rfl
   have g2 := hf 2 _ rfl
   simp [Tryz.cIntE] at g0 g1 g2
   obtain ⟨z0, e0, _⟩ := DataW.trod_int Tryz.underlying3 g0
   obtain ⟨z1, e1, _⟩ := DataW.trod_int Tryz.underlying3 g1
   obtain ⟨z2, e2, _⟩ := DataW.trod_int Tryz.underlying3 g2
   obtain rfl : v0 = .int .i64 z0 := by simpa using e0
   obtain rfl : v1 = .int .i64 z1 := by simpa using e1
   obtain rfl : v2 = .int .i64 z2 := by simpa using e2
   have c0 := hcell 0 (by omega)
   have c1 := hcell 1 (by omega)
   have c2 := hcell 2 (by omega)
   rw [Go.Deep.add_add] at c0 c1 c2
   refine ⟨(z0, z1, z2), fun q u hq => ?_⟩
   match q, hq with
   | 0, hq => cases hq; simpa using c0
   | 1, hq => cases hq; simpa using c1
   | 2, hq => cases hq; simpa using c2
   | q + 3, hq => simp [BEdges.enc] at hq
set_option maxRecDepth 100000 in
theorem edges_in {H : Type} {enc : TypeId × Value -> H} {W : World} {fuel : Nat} {v : Value} {x : DataW H × List MemPlace} (h : DataW.trod enc Tryz.prog W 0 (fun _ => true) true fuel 22 [v] = some x) : ∃ es, HasE W v es /\ es.length <= maxLen := by
 rcases Go.Deep.open_slice Tryz.underlying22 h with ⟨hc, _⟩ | ⟨a, len, cap, m, n, D, Pl, hc, _, hl, hm, hmm, _, hx⟩
 ·obtain rfl : v = .slice none 0 0 := by injection hc
  exact ⟨[], ⟨none, 0, rfl, Nat.le_refl _, none, 0, rfl, fun i s h => by simp [BEdges.C] at h⟩, by simp⟩
 ·obtain rfl : v = .slice (some a) len cap := by injection hc
  have hm' : m = cap := by simpa using hmm
  rw [Tryz.cEdge] at hx
  have each : ∀ i, i < len -> ∃ z : Sy.Ed, ∀ q u, (BEdges.enc z)[q]? = some u -> W.cell? (a.add (i * 3 + q)) = some u := fun i hi => by
   obtain ⟨cs, h1, h2⟩ := hx i (by omega)
   exact edge_in h1 h2
  obtain ⟨f, hf'⟩ := ed_choose each
  have hL : ((List.range len).map f).length = len := by simp
  refine ⟨(List.range len).map f, ⟨some a, cap, by rw [hL], by rw [hL]; omega, some a, cap, by rw [hL], fun j u hj => ⟨a, rfl, ?_⟩⟩, by rw [hL]; omega⟩
  have hj3 : j < len * 3 := by have := (List.getElem?_eq_some_iff.1 hj).1; rw [BEdges.C_len, hL] at this; exact this
  have hi : j / 3 < len := by omega
  have hz : ((List.range len).map f)[j / 3]? = some (f (j / 3)) := by rw [List.getElem?_map, List.getElem?_range hi]; rfl
  have h9 := BEdges.C_at _ _ _ hz (j % 3) (Nat.mod_lt _ (by decide))
  have e9 : j / 3 * 3 + j % 3 = j := by omega
  rw [e9, hj] at h9
  have h8 := hf' (j / 3) hi (j % 3) u h9.symm
  rw [e9] at h8
  exact h8
set_option maxRecDepth 100000 in
theorem has_sys {H : Type} {enc : TypeId × Value -> H} {W : World} {base : Nat} {v : Value} {d : DataW H} {ps : List MemPlace} (hok : Value.okWide Tryz.prog W .any base 24 v) (h : DataW.Trod enc Tryz.prog W 0 (fun _ => true) true 24 v d ps) :
 ∃ (n k s : Int) (u : Value) (es : List Sy.Ed), v = sysV n k s u /\ HasE W u es /\ es.length <= maxLen := by
 obtain ⟨v0, v1, v2, v3, y0, y1, y2, y3, f, rfl, _, _, t0, t1, t2, t3⟩ := Go.Joins.open_agg4 Tryz.underlying24 (by kernel_rfl) Tryz.cSys hok h
 obtain ⟨z0, e0, _⟩ := DataW.trod_int Tryz.underlying3 t0
 obtain ⟨z1, e1, _⟩ := DataW.trod_int Tryz.underlying3 t1
 obtain ⟨z2, e2, _⟩ := DataW.trod_int Tryz.underlying3 t2
 obtain rfl : v0 = .int .i64 z0 := by simpa using e0
 obtain rfl : v1 = .int .i64 z1 := by simpa using e1
 obtain rfl : v2 = .int .i64 z2 := by simpa using e2
 obtain ⟨es, h1, h2⟩ := edges_in t3
 exact ⟨z0, z1, z2, v3, es, rfl, h1, h2⟩
end
section
open Go.ChangeShapes Go.WideShapes Go.ChangeAt Go.WideMaps Go.WideElems Go.RowKit
theorem laid_tail9 {W : World} {x : String × DataW Unit} {r : List (String × DataW Unit)} (h : laidMet Tryz.prog (x :: r) W) : laidMet Tryz.prog r W := by
 obtain ⟨ps, ⟨g, t, cs, fuel, p, q, _, _, _, _, hr, rfl⟩, hn, ho⟩ := h
 exact ⟨q, hr, (List.nodup_append.1 hn).2.1, fun b off hb => ho b off (List.mem_append_right _ hb)⟩
theorem Tryz.gTab : Tryz.prog.globalNamed "math/bits.deBruijn64tab" = some 11 := by kernel_rfl
theorem Tryz.tTab : (Tryz.prog.globals[11]?).map (·.type) = some 202 := by kernel_rfl
theorem Tryz.cTabE : Tryz.prog.cellsOf 5 = 1 := by kernel_rfl
theorem Tryz.cTab : Tryz.prog.cellsOf 202 = 64 := by kernel_rfl
def tabZ : List Int := Lib.deBruijn64tab.map fun (n : Nat) => Int.ofNat n
theorem tabZ_at : ∀ j, j < 64 -> tabZ.getD j 0 = ((Lib.deBruijn64tab.getD j 0 : Nat) : Int) := by decide +kernel
theorem tab_of {W : World} {r : List (String × DataW Unit)} (h : laidMet Tryz.prog (("math/bits.deBruijn64tab", Lib.tabData .u8 tabZ) :: r) W) : TabW W := fun j hj => by
 have h1 := (Lib.tabIs_of_head Tryz.gTab Tryz.tTab Tryz.underlying202 Tryz.underlying5 Tryz.cTabE Tryz.cTab h).cell Tryz.gTab j (by simpa [tabZ, Lib.deBruijn64tab] using hj)
 rw [tabZ_at j hj] at h1
 exact h1
abbrev eI9 (x : List UInt8) : DataW Unit := .iface "*errors.errorString" (.ptr (.agg [.lit (.string x)]))
theorem hasE_has {w : World} {v : Value} {es : List Sy.Ed} (h : HasE w v es) : BEdges.Has w v es := by
 obtain ⟨_, _, _, _, h⟩ := h
 exact h
end
section
open Go.ChangeShapes Go.WideShapes Go.ChangeAt Go.WideMaps Go.WideElems Go.RowKit
theorem simul4_of {W : World} {x0 x1 x2 x3 : List UInt8} (h : laidMet Tryz.prog (("math/bits.deBruijn64tab", Lib.tabData .u8 tabZ) :: ("semblance/api.ErrArg", eI9 x0) :: ("semblance/api.ErrLong", eI9 x1) :: ("semblance/api.ErrIndex", eI9 x2) :: ("semblance/api.ErrSystem", eI9 x3) :: []) W) : ∃ a, EnvM W a := by
 obtain ⟨ps, h0, hnd, r0⟩ := laid_tail9 h
 obtain ⟨ads, h1, h2, _, _⟩ := laid_list [("semblance/api.ErrArg", 3, x0), ("semblance/api.ErrLong", 2, x1), ("semblance/api.ErrIndex", 0, x2), ("semblance/api.ErrSystem", 1, x3)] ps (fun x hx => by
  simp only [List.mem_cons, List.not_mem_nil, or_false] at hx
  rcases hx with rfl | rfl | rfl | rfl
  all_goals exact ⟨by kernel_rfl, by kernel_rfl⟩) h0 r0
 have hl : ads.length = 4 := h1
 obtain ⟨a, ha⟩ : ∃ a, ads[3]? = some a := ⟨_, List.getElem?_eq_getElem (by omega)⟩
 exact ⟨a, h2 3 _ a rfl ha, tab_of h⟩
set_option maxRecDepth 100000 in
theorem has_edge {H : Type} {enc : TypeId × Value -> H} {W : World} {base : Nat} {v : Value} {d : DataW H} {ps : List MemPlace} (hok : Value.okWide Tryz.prog W .any base 66 v) (h : DataW.Trod enc Tryz.prog W 0 (fun _ => true) true 66 v d ps) :
 ∃ f l g : Int, v = .agg #[.int .i64 f, .int .i64 l, .int .i64 g] := by
 obtain ⟨v0, v1, v2, y0, y1, y2, n, rfl, _, _, t0, t1, t2⟩ := Go.Joins.open_agg3 Tryz.underlying66 (by kernel_rfl) Tryz.cEdge hok h
 obtain ⟨z0, e0, _⟩ := DataW.trod_int Tryz.underlying3 t0
 obtain ⟨z1, e1, _⟩ := DataW.trod_int Tryz.underlying3 t1
 obtain ⟨z2, e2, _⟩ := DataW.trod_int Tryz.underlying3 t2
 obtain rfl : v0 = .int .i64 z0 := by simpa using e0
 obtain rfl : v1 = .int .i64 z1 := by simpa using e1
 obtain rfl : v2 = .int .i64 z2 := by simpa using e2
 exact ⟨z0, z1, z2, rfl⟩
end
end Go.Proofs.YtladdlkfnfdhaaaGreatDoor
