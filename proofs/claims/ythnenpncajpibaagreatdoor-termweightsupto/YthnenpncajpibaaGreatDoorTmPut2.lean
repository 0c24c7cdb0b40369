/- Put of a term that may be put: there already, or new. -/
import Derived.Test.YthnenpncajpibaaGreatDoorTmPut
namespace Go.Proofs.YthnenpncajpibaaGreatDoor
open Go.RowKit Go.Maps
attribute [local go_sem ↓] Go.wp_at_zero Go.wp_at_succ
set_option maxRecDepth 100000 in
set_option maxHeartbeats 1600000 in
theorem put_old (b : Nat) (L : List Tm) (F : Nat → Prop) (t : Tm) (vn vp : Value) (w : World) (hS : StoB w b L F) (hh : Hand w F t vn vp) (hmay : t.may L.length = true) (i : Nat) (hi : L[i]? = some t) :
    Calls Tryz.prog 20 #[.pointer (some ⟨b, 0, none⟩), tmV t vn vp] w fun r w' => r = .returned (.tuple #[.int .i64 i, .nilIface]) ∧ Below w.heap.size w w' := by
  obtain ⟨ao, cap, hc⟩ := hS.cell
  have hwf := may_wf (by have := hS.big; omega) hmay
  obtain ⟨W, hW⟩ : ∃ W, W = w.alloc (.cells #[.int .i64 t.kind, .int .i64 t.label, .int .i64 t.a, .int .i64 t.b, vn, vp] 35) := ⟨_, rfl⟩
  have hb : Below w.heap.size w W := by rw [hW]; exact (Below.refl _ _).alloc (Nat.le_refl _) _
  have hX : W.heap[w.heap.size]? = some (.cells #[.int .i64 t.kind, .int .i64 t.label, .int .i64 t.a, .int .i64 t.b, vn, vp] 35 (0, 0)) := by rw [hW]; exact (MapKept.heap_alloc w _).1
  have hM := mayPut_any b ao L.length cap t vn vp W (cell_up hc hb) (hh.n.below hb) (hh.p.below hb) (by have := hwf.nl; unfold maxLen; omega) (by have := hwf.pl; unfold maxLen; omega)
  rw [hmay] at hM
  unfold tmV at hM ⊢
  obtain ⟨an, cn, rfl, _⟩ := id hh.n
  obtain ⟨ap, cp, rfl, _⟩ := id hh.p
  have HM : Hid _ := And.intro hM (And.intro hb (And.intro hW hX))
  have HS : Hid _ := And.intro hS (And.intro hh hwf)
  clear hM hb hW hX hS hh hwf
  go_enter Tryz.func20, Tryz.ntmps20
  go_wp2_with fail
  rw [← HM.out.2.2.1]
  refine HM.out.1.mono ?_
  rintro r w1 ⟨rfl, hb1⟩
  have hB1 : Below w.heap.size w w1 := HM.out.2.1.trans (hb1.mono HM.out.2.1.size)
  have hX1 := (hb1.block _ (t_lt HM.out.2.2.2)).trans HM.out.2.2.2
  obtain ⟨vt, vm, vs, hS1, hF1⟩ := HS.out.1.below hB1
  have hH1 := HS.out.2.1.below hB1
  obtain ⟨hc0, hc1⟩ := t_cells hS1.cell
  obtain ⟨x0, x1, x2, x3, x4, x5, xf⟩ := six6 hX1
  have HK : Hid (∀ W', Below w1.heap.size w1 W' → Calls Tryz.prog 82 #[.agg #[.int .i64 t.kind, .int .i64 t.label, .int .i64 t.a, .int .i64 t.b, .slice an t.names.length cn, .slice ap t.pairs.length cp]] W' fun r w' => r = .returned (keyV t) ∧ Below W'.heap.size W' w') := fun W' hb => keyOf_any t _ _ W' (hH1.below hb).n (hH1.below hb).p (by have := HS.out.2.2.nl; omega) (by have := HS.out.2.2.pl; omega) HS.out.2.2.nb HS.out.2.2.pb
  have H1 : Hid _ := And.intro hB1 (And.intro hS1 (And.intro hF1 (And.intro hX1 hH1)))
  clear hb1 hB1 hX1 hS1 hF1 hH1 hc
  go_wp2_with fail
  go_region_law
    ((first
      | (go_simp; go_at_call 82; refine (HK.out _ (by repeat (first | exact Below.refl _ _ | assumption | refine Below.drew ?_ | refine Below.setCell ?_ (by simp) _ | refine Below.alloc ?_ (by simp) _))).mono ?_; rintro r3 w3 ⟨rfl, hb3'⟩; have hb3 := below_of_drew3 hb3'; have hS3 := H1.out.2.1.below hb3; have hrun := hS3.look_yes hi; clear hc0 hc1; obtain ⟨hc0, hc1⟩ := t_cells hS3.cell; have H3 : Hid _ := And.intro hS3 hb3; clear hb3 hb3' hS3 HK)))
  all_goals
    go_wp2_with fail
    go_ret2
    exact ⟨rfl, H1.out.1.trans (H3.out.2.mono H1.out.1.size)⟩
set_option maxRecDepth 100000 in
set_option maxHeartbeats 1600000 in
theorem put_new (b : Nat) (L : List Tm) (F : Nat → Prop) (t : Tm) (vn vp : Value) (w : World) (hS : StoB w b L F) (hh : Hand w F t vn vp) (hmay : t.may L.length = true) (hnew : t ∉ L) (hlen : L.length < 100000) :
    Calls Tryz.prog 20 #[.pointer (some ⟨b, 0, none⟩), tmV t vn vp] w fun r w' => r = .returned (.tuple #[.int .i64 L.length, .nilIface]) ∧ ∃ F', StoB w' b (L ++ [t]) F' ∧ Kept F w w' ∧ (∀ i, F' i → F i ∨ w.heap.size ≤ i) := by
  obtain ⟨ao, cap, hc⟩ := hS.cell
  have hwf := may_wf (by have := hS.big; omega) hmay
  obtain ⟨W, hW⟩ : ∃ W, W = w.alloc (.cells #[.int .i64 t.kind, .int .i64 t.label, .int .i64 t.a, .int .i64 t.b, vn, vp] 35) := ⟨_, rfl⟩
  have hb : Below w.heap.size w W := by rw [hW]; exact (Below.refl _ _).alloc (Nat.le_refl _) _
  have hX : W.heap[w.heap.size]? = some (.cells #[.int .i64 t.kind, .int .i64 t.label, .int .i64 t.a, .int .i64 t.b, vn, vp] 35 (0, 0)) := by rw [hW]; exact (MapKept.heap_alloc w _).1
  have hM := mayPut_any b ao L.length cap t vn vp W (cell_up hc hb) (hh.n.below hb) (hh.p.below hb) (by have := hwf.nl; unfold maxLen; omega) (by have := hwf.pl; unfold maxLen; omega)
  rw [hmay] at hM
  unfold tmV at hM ⊢
  obtain ⟨an, cn, rfl, _⟩ := id hh.n
  obtain ⟨ap, cp, rfl, _⟩ := id hh.p
  have HM : Hid _ := And.intro hM (And.intro hb (And.intro hW hX))
  have HS : Hid _ := And.intro hS (And.intro hh hwf)
  clear hM hb hW hX hS hh hwf
  go_enter Tryz.func20, Tryz.ntmps20
  go_wp2_with fail
  rw [← HM.out.2.2.1]
  refine HM.out.1.mono ?_
  rintro r w1 ⟨rfl, hb1⟩
  have hB1 : Below w.heap.size w w1 := HM.out.2.1.trans (hb1.mono HM.out.2.1.size)
  have hX1 := (hb1.block _ (t_lt HM.out.2.2.2)).trans HM.out.2.2.2
  obtain ⟨vt, vm, vs, hS1, hF1⟩ := HS.out.1.below hB1
  have hH1 := HS.out.2.1.below hB1
  obtain ⟨hc0, hc1⟩ := t_cells hS1.cell
  obtain ⟨x0, x1, x2, x3, x4, x5, xf⟩ := six6 hX1
  have HK : Hid (∀ W', Below w1.heap.size w1 W' → Calls Tryz.prog 82 #[.agg #[.int .i64 t.kind, .int .i64 t.label, .int .i64 t.a, .int .i64 t.b, .slice an t.names.length cn, .slice ap t.pairs.length cp]] W' fun r w' => r = .returned (keyV t) ∧ Below W'.heap.size W' w') := fun W' hb => keyOf_any t _ _ W' (hH1.below hb).n (hH1.below hb).p (by have := HS.out.2.2.nl; omega) (by have := HS.out.2.2.pl; omega) HS.out.2.2.nb HS.out.2.2.pb
  have H1 : Hid _ := And.intro hB1 (And.intro hS1 (And.intro hF1 (And.intro hX1 hH1)))
  clear hb1 hB1 hX1 hS1 hF1 hH1 hc
  go_wp2_with fail
  go_region_law
    ((first
      | (go_simp; go_at_call 82; refine (HK.out _ (by repeat (first | exact Below.refl _ _ | assumption | refine Below.drew ?_ | refine Below.setCell ?_ (by simp) _ | refine Below.alloc ?_ (by simp) _))).mono ?_; rintro r3 w3 ⟨rfl, hb3'⟩; have hb3 := below_of_drew3 hb3'; have hS3 := H1.out.2.1.below hb3; obtain ⟨c3, hrun⟩ := hS3.look_no HS.out.2.2 hnew; clear hc0 hc1; obtain ⟨hc0, hc1⟩ := t_cells hS3.cell; have H3 : Hid _ := And.intro hS3 hb3; clear hb3 hb3' hS3 HK)))
  all_goals
    clear x0 x1 x2 x3 x4 x5 xf
    have hX3 := (H3.out.2.block _ (t_lt H1.out.2.2.2.1)).trans H1.out.2.2.2.1
    obtain ⟨x0, x1, x2, x3, x4, x5, xf⟩ := six6 hX3
    have hA := add_any b L F t (.slice an t.names.length cn) (.slice ap t.pairs.length cp) w3 ⟨_, _, _, H3.out.1, H1.out.2.2.1⟩ HS.out.2.2 hnew (H1.out.2.2.2.2.below H3.out.2) hlen
    unfold tmV at hA
    have HA : Hid _ := hA
    clear hA hX3
    go_wp2_with fail
    refine Calls.mono HA.out ?_
    rintro r w5 ⟨rfl, F', g1, g2, g3⟩
    have HF : Hid _ := And.intro g1 (And.intro g2 g3)
    clear g1 g2 g3
    go_wp2_with fail
    go_ret2
    have hB : Below w.heap.size w w3 := H1.out.1.trans (H3.out.2.mono H1.out.1.size)
    exact ⟨rfl, F', HF.out.1, (Kept.of_below hB).trans HF.out.2.1, fun i hi => (HF.out.2.2 i hi).imp id fun h => Nat.le_trans hB.size h⟩
end Go.Proofs.YthnenpncajpibaaGreatDoor
