/- Texts of this claim, joined: TmPut2, TmGet, RtSum, TmSame, Is, Sent, TmSameT. -/
import Derived.Test.YthnenpncajpibaaGreatDoorPart2
import Derived.WalkSmall
import Derived.Deep.LoopGhost
import Derived.Test.YthnenpncajpibaaGreatDoorProg
import Derived.WalkKit
import Derived.LaidEql
import Derived.Stop.Asserts
import Derived.RowKitTokens
import Derived.Below
import Derived.OneCell
/- Put of a term that may be put: there already, or new. -/
namespace Go.Proofs.YthnenpncajpibaaGreatDoor
open Go.RowKit Go.Maps
attribute [local go_sem ↓] Go.wp_at_zero Go.wp_at_succ
set_option maxRecDepth 100000 in
set_option maxHeartbeats 1600000 in
theorem put_old (b : Nat) (L : List Tm) (F : Nat → Prop) (t : Tm) (vn vp : Value) (w : World) (hS : StoB w b L F) (hh : Hand w F t vn vp) (hmay : t.may L.length = true) (i : Nat) (hi : L[i]? = some t) :
    Calls Tryz.prog 20 #[.pointer (some ⟨b, 0, none⟩), tmV t vn vp] w fun r w' => r = .returned (.tuple #[.int .i64 i, .nilIface]) ∧ Below w.heap.size w w' := by
  obtain ⟨ao, cap, hc⟩ := hS.cell
  have hwf := may_wf (by have := hS.big; omega) hmay
  obtain ⟨W, hW⟩ : ∃ W, W = w.alloc (.cells #[.int .i64 t.kind, .int .i64 t.label, .int .i64 t.a, .int .i64 t.b, vn, vp] 35) := ⟨_, rfl⟩
  have hb : Below w.heap.size w W := by rw [hW]; exact (Below.refl _ _).alloc (Nat.le_refl _) _
  have hX : W.heap[w.heap.size]? = some (.cells #[.int .i64 t.kind, .int .i64 t.label, .int .i64 t.a, .int .i64 t.b, vn, vp] 35 (0, 0)) := by rw [hW]; exact (MapKept.heap_alloc w _).1
  have hM := mayPut_any b ao L.length cap t vn vp W (cell_up hc hb) (hh.n.below hb) (hh.p.below hb) (by have := hwf.nl; unfold maxLen; omega) (by have := hwf.pl; unfold maxLen; omega)
  rw [hmay] at hM
  unfold tmV at hM ⊢
  obtain ⟨an, cn, rfl, _⟩ := id hh.n
  obtain ⟨ap, cp, rfl, _⟩ := id hh.p
  have HM : Hid _ := And.intro hM (And.intro hb (And.intro hW hX))
  have HS : Hid _ := And.intro hS (And.intro hh hwf)
  clear hM hb hW hX hS hh hwf
  go_enter Tryz.func20, Tryz.ntmps20
  go_wp2_with fail
  rw [← HM.out.2.2.1]
  refine HM.out.1.mono ?_
  rintro r w1 ⟨rfl, hb1⟩
  have hB1 : Below w.heap.size w w1 := HM.out.2.1.trans (hb1.mono HM.out.2.1.size)
  have hX1 := (hb1.block _ (t_lt HM.out.2.2.2)).trans HM.out.2.2.2
  obtain ⟨vt, vm, vs, hS1, hF1⟩ := HS.out.1.below hB1
  have hH1 := HS.out.2.1.below hB1
  obtain ⟨hc0, hc1⟩ := t_cells hS1.cell
  obtain ⟨x0, x1, x2, x3, x4, x5, xf⟩ := six6 hX1
  have HK : Hid (∀ W', Below w1.heap.size w1 W' → Calls Tryz.prog 82 #[.agg #[.int .i64 t.kind, .int .i64 t.label, .int .i64 t.a, .int .i64 t.b, .slice an t.names.length cn, .slice ap t.pairs.length cp]] W' fun r w' => r = .returned (keyV t) ∧ Below W'.heap.size W' w') := fun W' hb => keyOf_any t _ _ W' (hH1.below hb).n (hH1.below hb).p (by have := HS.out.2.2.nl; omega) (by have := HS.out.2.2.pl; omega) HS.out.2.2.nb HS.out.2.2.pb
  have H1 : Hid _ := And.intro hB1 (And.intro hS1 (And.intro hF1 (And.intro hX1 hH1)))
  clear hb1 hB1 hX1 hS1 hF1 hH1 hc
  go_wp2_with fail
  go_region_law
    ((first
      | (go_simp; go_at_call 82; refine (HK.out _ (by repeat (first | exact Below.refl _ _ | assumption | refine Below.drew ?_ | refine Below.setCell ?_ (by simp) _ | refine Below.alloc ?_ (by simp) _))).mono ?_; rintro r3 w3 ⟨rfl, hb3'⟩; have hb3 := below_of_drew3 hb3'; have hS3 := H1.out.2.1.below hb3; have hrun := hS3.look_yes hi; clear hc0 hc1; obtain ⟨hc0, hc1⟩ := t_cells hS3.cell; have H3 : Hid _ := And.intro hS3 hb3; clear hb3 hb3' hS3 HK)))
  all_goals
    go_wp2_with fail
    go_ret2
    exact ⟨rfl, H1.out.1.trans (H3.out.2.mono H1.out.1.size)⟩
set_option maxRecDepth 100000 in
set_option maxHeartbeats 1600000 in
theorem put_new (b : Nat) (L : List Tm) (F : Nat → Prop) (t : Tm) (vn vp : Value) (w : World) (hS : StoB w b L F) (hh : Hand w F t vn vp) (hmay : t.may L.length = true) (hnew : t ∉ L) (hlen : L.length < 100000) :
    Calls Tryz.prog 20 #[.pointer (some ⟨b, 0, none⟩), tmV t vn vp] w fun r w' => r = .returned (.tuple #[.int .i64 L.length, .nilIface]) ∧ ∃ F', StoB w' b (L ++ [t]) F' ∧ Kept F w w' ∧ (∀ i, F' i → F i ∨ w.heap.size ≤ i) := by
  obtain ⟨ao, cap, hc⟩ := hS.cell
  have hwf := may_wf (by have := hS.big; omega) hmay
  obtain ⟨W, hW⟩ : ∃ W, W = w.alloc (.cells #[.int .i64 t.kind, .int .i64 t.label, .int .i64 t.a, .int .i64 t.b, vn, vp] 35) := ⟨_, rfl⟩
  have hb : Below w.heap.size w W := by rw [hW]; exact (Below.refl _ _).alloc (Nat.le_refl _) _
  have hX : W.heap[w.heap.size]? = some (.cells #[.int .i64 t.kind, .int .i64 t.label, .int .i64 t.a, .int .i64 t.b, vn, vp] 35 (0, 0)) := by rw [hW]; exact (MapKept.heap_alloc w _).1
  have hM := mayPut_any b ao L.length cap t vn vp W (cell_up hc hb) (hh.n.below hb) (hh.p.below hb) (by have := hwf.nl; unfold maxLen; omega) (by have := hwf.pl; unfold maxLen; omega)
  rw [hmay] at hM
  unfold tmV at hM ⊢
  obtain ⟨an, cn, rfl, _⟩ := id hh.n
  obtain ⟨ap, cp, rfl, _⟩ := id hh.p
  have HM : Hid _ := And.intro hM (And.intro hb (And.intro hW hX))
  have HS : Hid _ := And.intro hS (And.intro hh hwf)
  clear hM hb hW hX hS hh hwf
  go_enter Tryz.func20, Tryz.ntmps20
  go_wp2_with fail
  rw [← HM.out.2.2.1]
  refine HM.out.1.mono ?_
  rintro r w1 ⟨rfl, hb1⟩
  have hB1 : Below w.heap.size w w1 := HM.out.2.1.trans (hb1.mono HM.out.2.1.size)
  have hX1 := (hb1.block _ (t_lt HM.out.2.2.2)).trans HM.out.2.2.2
  obtain ⟨vt, vm, vs, hS1, hF1⟩ := HS.out.1.below hB1
  have hH1 := HS.out.2.1.below hB1
  obtain ⟨hc0, hc1⟩ := t_cells hS1.cell
  obtain ⟨x0, x1, x2, x3, x4, x5, xf⟩ := six6 hX1
  have HK : Hid (∀ W', Below w1.heap.size w1 W' → Calls Tryz.prog 82 #[.agg #[.int .i64 t.kind, .int .i64 t.label, .int .i64 t.a, .int .i64 t.b, .slice an t.names.length cn, .slice ap t.pairs.length cp]] W' fun r w' => r = .returned (keyV t) ∧ Below W'.heap.size W' w') := fun W' hb => keyOf_any t _ _ W' (hH1.below hb).n (hH1.below hb).p (by have := HS.out.2.2.nl; omega) (by have := HS.out.2.2.pl; omega) HS.out.2.2.nb HS.out.2.2.pb
  have H1 : Hid _ := And.intro hB1 (And.intro hS1 (And.intro hF1 (And.intro hX1 hH1)))
  clear hb1 hB1 hX1 hS1 hF1 hH1 hc
  go_wp2_with fail
  go_region_law
    ((first
      | (go_simp; go_at_call 82; refine (HK.out _ (by repeat (first | exact Below.refl _ _ | assumption | refine Below.drew ?_ | refine Below.setCell ?_ (by simp) _ | refine Below.alloc ?_ (by simp) _))).mono ?_; rintro r3 w3 ⟨rfl, hb3'⟩; have hb3 := below_of_drew3 hb3'; have hS3 := H1.out.2.1.below hb3; obtain ⟨c3, hrun⟩ := hS3.look_no HS.out.2.2 hnew; clear hc0 hc1; obtain ⟨hc0, hc1⟩ := t_cells hS3.cell; have H3 : Hid _ := And.intro hS3 hb3; clear hb3 hb3' hS3 HK)))
  all_goals
    clear x0 x1 x2 x3 x4 x5 xf
    have hX3 := (H3.out.2.block _ (t_lt H1.out.2.2.2.1)).trans H1.out.2.2.2.1
    obtain ⟨x0, x1, x2, x3, x4, x5, xf⟩ := six6 hX3
    have hA := add_any b L F t (.slice an t.names.length cn) (.slice ap t.pairs.length cp) w3 ⟨_, _, _, H3.out.1, H1.out.2.2.1⟩ HS.out.2.2 hnew (H1.out.2.2.2.2.below H3.out.2) hlen
    unfold tmV at hA
    have HA : Hid _ := hA
    clear hA hX3
    go_wp2_with fail
    refine Calls.mono HA.out ?_
    rintro r w5 ⟨rfl, F', g1, g2, g3⟩
    have HF : Hid _ := And.intro g1 (And.intro g2 g3)
    clear g1 g2 g3
    go_wp2_with fail
    go_ret2
    have hB : Below w.heap.size w w3 := H1.out.1.trans (H3.out.2.mono H1.out.1.size)
    exact ⟨rfl, F', HF.out.1, (Kept.of_below hB).trans HF.out.2.1, fun i hi => (HF.out.2.2 i hi).imp id fun h => Nat.le_trans hB.size h⟩
end Go.Proofs.YthnenpncajpibaaGreatDoor
/- Contract of Get. -/
namespace Go.Proofs.YthnenpncajpibaaGreatDoor
open Go.RowKit Go.Maps
/-- A term of the store, as it lies in the row. -/
structure AtT (w : World) (b g cap n i : Nat) (t : Tm) (vn vp : Value) : Prop where
  c : w.cell? ⟨b, 0, none⟩ = some (.slice (some ⟨g, 0, none⟩) n cap)
  x0 : w.cell? ⟨g, i * 6, none⟩ = some (.int .i64 t.kind)
  x1 : w.cell? ⟨g, i * 6 + 1, none⟩ = some (.int .i64 t.label)
  x2 : w.cell? ⟨g, i * 6 + 2, none⟩ = some (.int .i64 t.a)
  x3 : w.cell? ⟨g, i * 6 + 3, none⟩ = some (.int .i64 t.b)
  x4 : w.cell? ⟨g, i * 6 + 4, none⟩ = some vn
  x5 : w.cell? ⟨g, i * 6 + 5, none⟩ = some vp
  n : HasI w vn t.names
  p : HasP w vp t.pairs
theorem StoB.at {w : World} {b : Nat} {L : List Tm} {F : Nat → Prop} (h : StoB w b L F) {i : Nat} {t : Tm} (hi : L[i]? = some t) : ∃ g cap vn vp, AtT w b g cap L.length i t vn vp ∧ F g ∧ (∀ k, vn.ownBlock = some k → F k) ∧ (∀ k, vp.ownBlock = some k → F k) := by
  obtain ⟨vt, vm, vs, hS, rfl⟩ := h
  have hlt := (List.getElem?_eq_some_iff.1 hi).1
  obtain ⟨g, cap, rfl, _, _⟩ := hS.row.form (by omega)
  have hv : vs[i]? = some (vs[i]'(by rw [hS.len]; exact hlt)) := List.getElem?_eq_getElem _
  obtain ⟨l1, l2⟩ := hS.lists i t _ hi hv
  have hr := rowC_at L vs hS.len i t _ hi hv
  have hc : ∀ k, k < 6 → w.cell? ⟨g, i * 6 + k, none⟩ = (tmC t (vs[i]'(by rw [hS.len]; exact hlt)).1 (vs[i]'(by rw [hS.len]; exact hlt)).2)[k]? := fun k hk => by
    rw [hS.row.cellAt (i * 6 + k) (by omega), hr k hk]
  exact ⟨g, cap, _, _, ⟨(t_cells hS.cell).1, hc 0 (by omega), hc 1 (by omega), hc 2 (by omega), hc 3 (by omega), hc 4 (by omega), hc 5 (by omega), l1.has, l2.has⟩, .inr (.inl rfl), fun k hk => .inr (.inr (.inr ⟨_, List.getElem_mem _, .inl hk⟩)), fun k hk => .inr (.inr (.inr ⟨_, List.getElem_mem _, .inr hk⟩))⟩
theorem AtT.below {w w' : World} {b g cap n i : Nat} {t : Tm} {vn vp : Value} (h : AtT w b g cap n i t vn vp) (hb : Below w.heap.size w w') : AtT w' b g cap n i t vn vp :=
  ⟨cell_up h.c hb, cell_up h.x0 hb, cell_up h.x1 hb, cell_up h.x2 hb, cell_up h.x3 hb, cell_up h.x4 hb, cell_up h.x5 hb, h.n.below hb, h.p.below hb⟩
/-- Six cells of a box written. -/
def set6 (w : World) (B : Nat) (a b c d e f : Value) : World := (((((w.setCell ⟨B, 0, none⟩ a).setCell ⟨B, 1, none⟩ b).setCell ⟨B, 2, none⟩ c).setCell ⟨B, 3, none⟩ d).setCell ⟨B, 4, none⟩ e).setCell ⟨B, 5, none⟩ f
theorem set6_other (w : World) (B : Nat) (a b c d e f : Value) (i : Nat) (h : i ≠ B) : (set6 w B a b c d e f).heap[i]? = w.heap[i]? := by
  unfold set6
  exact (set_other _ _ _ _ _ h).trans ((set_other _ _ _ _ _ h).trans ((set_other _ _ _ _ _ h).trans ((set_other _ _ _ _ _ h).trans ((set_other _ _ _ _ _ h).trans (set_other _ _ _ _ _ h)))))
theorem set6_below {w w2 : World} (a b c d e f : Value) (h : Below w.heap.size w w2) : Below w.heap.size w (set6 w2 w.heap.size a b c d e f) :=
  (((((h.setCell (Nat.le_refl _) _).setCell (Nat.le_refl _) _).setCell (Nat.le_refl _) _).setCell (Nat.le_refl _) _).setCell (Nat.le_refl _) _).setCell (Nat.le_refl _) _
theorem get_fin {w W w2 : World} {t : Tm} {v1 v2 : Value} {a b c d e f : Value} (hb : Below w.heap.size w W) (hlt : w.heap.size < W.heap.size) (h : Twin W w2 t v1 v2) : OwnI (set6 w2 w.heap.size a b c d e f) w.heap.size v1 t.names ∧ OwnP (set6 w2 w.heap.size a b c d e f) w.heap.size v2 t.pairs ∧ Below w.heap.size w (set6 w2 w.heap.size a b c d e f) :=
  ⟨row_base (trow_at h.n fun i hi => set6_other _ _ _ _ _ _ _ _ _ (by have := (h.n.lt i hi).1; omega)) hb.size, row_base (trow_at h.p fun i hi => set6_other _ _ _ _ _ _ _ _ _ (by have := (h.p.lt i hi).1; omega)) hb.size, set6_below _ _ _ _ _ _ (hb.trans (h.bl.mono hb.size))⟩
set_option maxRecDepth 100000 in
set_option maxHeartbeats 1600000 in
theorem get_yes (b : Nat) (L : List Tm) (F : Nat → Prop) (i : Nat) (t : Tm) (w : World) (hS : StoB w b L F) (hi : L[i]? = some t) :
    Calls Tryz.prog 17 #[.pointer (some ⟨b, 0, none⟩), .int .i64 i] w fun r w' => ∃ v1 v2, r = .returned (.tuple #[tmV t v1 v2, .nilIface]) ∧ OwnI w' w.heap.size v1 t.names ∧ OwnP w' w.heap.size v2 t.pairs ∧ Below w.heap.size w w' := by
  have hlt := (List.getElem?_eq_some_iff.1 hi).1
  have hwf := hS.wf t (List.mem_of_getElem? hi)
  have hbg := hS.big
  obtain ⟨W, hW⟩ : ∃ W, W = w.alloc (.cells #[.int .i64 0, .int .i64 0, .int .i64 0, .int .i64 0, .slice none 0 0, .slice none 0 0] 35) := ⟨_, rfl⟩
  have hb : Below w.heap.size w W := by rw [hW]; exact (Below.refl _ _).alloc (Nat.le_refl _) _
  have hX : W.heap[w.heap.size]? = some (.cells #[.int .i64 0, .int .i64 0, .int .i64 0, .int .i64 0, .slice none 0 0, .slice none 0 0] 35 (0, 0)) := by rw [hW]; exact (MapKept.heap_alloc w _).1
  obtain ⟨g, cap, vn, vp, hA, _⟩ := (hS.below hb).at hi
  have hl := lacks_no b (some ⟨g, 0, none⟩) L.length cap i W hA.c (by simp [Tm.has]; omega)
  have hT := twin_any t vn vp W hA.n hA.p (by have := hwf.nl; omega) (by have := hwf.pl; omega)
  unfold tmV at hT
  obtain ⟨an, cn, rfl, _⟩ := id hA.n
  obtain ⟨ap, cp, rfl, _⟩ := id hA.p
  obtain ⟨c0, y0, y1, y2, y3, y4, y5, _, _⟩ := hA
  have q0 : (0 : Int) ≤ (i : Int) := by omega
  have q1 : (i : Int) < (L.length : Int) := by omega
  have HM : Hid _ := And.intro hl (And.intro hT (And.intro hb (And.intro hW hX)))
  clear hl hT hb hW hX hS hwf hi
  go_enter Tryz.func17, Tryz.ntmps17
  go_wp2_with fail
  rw [← HM.out.2.2.2.1]
  refine HM.out.1.mono ?_
  rintro r w1 ⟨rfl, hw⟩
  obtain rfl := hw.symm
  go_wp2_with fail
  refine HM.out.2.1.mono ?_
  rintro r w2 ⟨v1, v2, rfl, hTw⟩
  obtain ⟨ao1, cap1, rfl⟩ := row_shape hTw.n
  obtain ⟨ao2, cap2, rfl⟩ := row_shape hTw.p
  have hX2 := (hTw.bl.block _ (t_lt HM.out.2.2.2.2)).trans HM.out.2.2.2.2
  obtain ⟨z0, z1, z2, z3, z4, z5, zf⟩ := six6 hX2
  have HT : Hid _ := hTw
  clear hTw hX2 c0 y0 y1 y2 y3 y4 y5
  go_wp2_with fail
  refine bodyPost_ret (v := .tuple #[tmV t (.slice ao1 t.names.length cap1) (.slice ao2 t.pairs.length cap2), .nilIface]) (by simp [results, Tryz.results17, go_sem, tmV, *]) rfl ⟨_, _, rfl, ?_⟩
  exact get_fin HM.out.2.2.1 (t_lt HM.out.2.2.2.2) HT.out
theorem get_no (b : Nat) (L : List Tm) (F : Nat → Prop) (i : Int) (T : TypeId) (u : Value) (w : World) (hS : StoB w b L F) (hi : Tm.has L.length i = false) (hE : w.cell? ⟨1, 0, none⟩ = some (.iface T u)) :
    Calls Tryz.prog 17 #[.pointer (some ⟨b, 0, none⟩), .int .i64 i] w fun r w' => (∃ g, r = .returned (.tuple #[tmV ⟨0, 0, 0, 0, [], []⟩ (.slice none 0 0) (.slice none 0 0), tFaultV g]) ∧ TermFault w' g (.iface T u) ∧ w.heap.size ≤ g) ∧ Below w.heap.size w w' := by
  obtain ⟨W, hW⟩ : ∃ W, W = w.alloc (.cells #[.int .i64 0, .int .i64 0, .int .i64 0, .int .i64 0, .slice none 0 0, .slice none 0 0] 35) := ⟨_, rfl⟩
  have hb : Below w.heap.size w W := by rw [hW]; exact (Below.refl _ _).alloc (Nat.le_refl _) _
  have hX : W.heap[w.heap.size]? = some (.cells #[.int .i64 0, .int .i64 0, .int .i64 0, .int .i64 0, .slice none 0 0, .slice none 0 0] 35 (0, 0)) := by rw [hW]; exact (MapKept.heap_alloc w _).1
  obtain ⟨ao, cap, hc⟩ := (hS.below hb).cell
  have hl := lacks_yes b ao L.length cap i T u W hc hi (cell_up hE hb)
  have HM : Hid _ := And.intro hl (And.intro hb (And.intro hW hX))
  clear hl hb hW hX hS hE hc
  go_enter Tryz.func17, Tryz.ntmps17
  go_wp2_with fail
  rw [← HM.out.2.2.1]
  refine HM.out.1.mono ?_
  rintro r w2 ⟨rfl, hF, hb2⟩
  have hX2 := (hb2.block _ (t_lt HM.out.2.2.2)).trans HM.out.2.2.2
  obtain ⟨z0, z1, z2, z3, z4, z5, zf⟩ := six6 hX2
  have hw2 : w.heap.size < W.heap.size := t_lt HM.out.2.2.2
  have HT : Hid _ := And.intro hF hb2
  clear hF hb2 hX2
  unfold tFaultV
  go_wp2_with fail
  refine bodyPost_ret (v := .tuple #[tmV ⟨0, 0, 0, 0, [], []⟩ (.slice none 0 0) (.slice none 0 0), tFaultV W.heap.size]) (by simp [results, Tryz.results17, go_sem, tmV, tFaultV, *]) rfl ⟨⟨_, rfl, ?_, by omega⟩, ?_⟩
  · unfold TermFault
    exact (set6_other w2 w.heap.size _ _ _ _ _ _ W.heap.size (by omega)).trans HT.out.1
  · exact set6_below _ _ _ _ _ _ (HM.out.2.1.trans (HT.out.2.mono HM.out.2.1.size))
end Go.Proofs.YthnenpncajpibaaGreatDoor
/- The document's store, plain: sums; contract of its sum. -/
namespace Go.Proofs.YthnenpncajpibaaGreatDoor
open Go.RowKit Go.Maps
namespace Tm
def s0 (t : Tm) : Int := t.kind + 31 * t.a + 17 * t.b + 7 * t.label
def s1 (ns : List Int) (v : Int) : Int := ns.foldl (fun v z => v + 3 * z) v
def s2 (ps : List (Int × Int)) (v : Int) : Int := ps.foldl (fun v p => v + 5 * p.1 + 11 * p.2) v
/-- The sum of all fields, and the row in which the term is. -/
def sumV (t : Tm) : Int := s2 t.pairs (s1 t.names t.s0)
def hash (t : Tm) : Nat := (t.sumV % 512).toNat
theorem s1_bd : ∀ (ns : List Int) (v : Int), (∀ z ∈ ns, 0 ≤ z ∧ z ≤ 255) → v ≤ s1 ns v ∧ s1 ns v ≤ v + 765 * ns.length
  | [], v, _ => by simp [s1]
  | z :: r, v, h => by
    have h1 := h z (by simp)
    have := s1_bd r (v + 3 * z) fun y hy => h y (by simp [hy])
    simp only [s1, List.foldl_cons, List.length_cons] at this ⊢
    omega
theorem s2_bd : ∀ (ps : List (Int × Int)) (v : Int), (∀ p ∈ ps, (0 ≤ p.1 ∧ p.1 ≤ 255) ∧ (0 ≤ p.2 ∧ p.2 ≤ 255)) → v ≤ s2 ps v ∧ s2 ps v ≤ v + 4080 * ps.length
  | [], v, _ => by simp [s2]
  | p :: r, v, h => by
    have h1 := h p (by simp)
    have := s2_bd r (v + 5 * p.1 + 11 * p.2) fun y hy => h y (by simp [hy])
    simp only [s2, List.foldl_cons, List.length_cons] at this ⊢
    omega
theorem s1_snoc (ns : List Int) (z v : Int) : s1 (ns ++ [z]) v = s1 ns v + 3 * z := by simp [s1]
theorem s2_snoc (ps : List (Int × Int)) (p : Int × Int) (v : Int) : s2 (ps ++ [p]) v = s2 ps v + 5 * p.1 + 11 * p.2 := by simp [s2]
/-- Small fields. -/
structure Bd (t : Tm) : Prop where
  k : 0 ≤ t.kind ∧ t.kind ≤ 7
  l : 0 ≤ t.label ∧ t.label ≤ 1000
  a : 0 ≤ t.a ∧ t.a ≤ 1000000
  b : 0 ≤ t.b ∧ t.b ≤ 1000000
  nb : ∀ z ∈ t.names, 0 ≤ z ∧ z ≤ 255
  pb : ∀ p ∈ t.pairs, (0 ≤ p.1 ∧ p.1 ≤ 255) ∧ (0 ≤ p.2 ∧ p.2 ≤ 255)
  nl : t.names.length ≤ 100
  pl : t.pairs.length ≤ 100
theorem Bd.s0 {t : Tm} (h : t.Bd) : 0 ≤ t.s0 ∧ t.s0 ≤ 100000000 := by
  have := h.k; have := h.l; have := h.a; have := h.b
  simp only [Tm.s0]; omega
theorem mem_take {α : Type} {l : List α} {j : Nat} {x : α} (h : x ∈ l.take j) : x ∈ l := List.mem_of_mem_take h
theorem Bd.s1 {t : Tm} (h : t.Bd) (j : Nat) : 0 ≤ Tm.s1 (t.names.take j) t.s0 ∧ Tm.s1 (t.names.take j) t.s0 ≤ 101000000 := by
  have h1 := s1_bd (t.names.take j) t.s0 fun z hz => h.nb z (mem_take hz)
  have h2 := h.s0
  have h3 := h.nl
  have h4 : (t.names.take j).length ≤ t.names.length := by rw [List.length_take]; omega
  omega
theorem Bd.s2 {t : Tm} (h : t.Bd) (j : Nat) : 0 ≤ Tm.s2 (t.pairs.take j) (Tm.s1 t.names t.s0) ∧ Tm.s2 (t.pairs.take j) (Tm.s1 t.names t.s0) ≤ 102000000 := by
  have h1 := s2_bd (t.pairs.take j) (Tm.s1 t.names t.s0) fun z hz => h.pb z (mem_take hz)
  have h2 := h.s1 t.names.length
  rw [List.take_length] at h2
  have h3 := h.pl
  have h4 : (t.pairs.take j).length ≤ t.pairs.length := by rw [List.length_take]; omega
  omega
theorem hash_lt (t : Tm) : t.hash < 512 := by unfold hash; omega
end Tm
theorem may_bd {n : Nat} {t : Tm} (hn : n ≤ 1000000) (h : t.may n = true) : t.Bd := by
  have hw := may_wf hn h
  obtain ⟨k, l, a, b, ns, ps⟩ := t
  simp only [Tm.may, Bool.and_eq_true] at h
  obtain ⟨hr, hz⟩ := h
  simp only [Tm.rest, Bool.and_eq_true, Bool.or_eq_true, beq_iff_eq, bne_iff_ne, List.length_eq_zero_iff] at hz
  obtain ⟨⟨⟨⟨z1, z2⟩, z3⟩, z4⟩, z5⟩ := hz
  unfold Tm.right at hr
  simp only at hr
  have core : (0 ≤ k ∧ k ≤ 7) ∧ (0 ≤ l ∧ l ≤ 1000) ∧ (0 ≤ a ∧ a ≤ 1000000) ∧ (0 ≤ b ∧ b ≤ 1000000) := by
    split at hr
    · rename_i hk; subst hk
      simp at z1 z2 z3
      refine ⟨?_, ?_, ?_, ?_⟩ <;> omega
    split at hr
    · rename_i hk; subst hk
      simp at z3
      simp only [Bool.and_eq_true, decide_eq_true_eq, has_iff] at hr
      refine ⟨?_, ?_, ?_, ?_⟩ <;> omega
    split at hr
    · rename_i hk
      simp only [Bool.and_eq_true, has_iff] at hr
      refine ⟨?_, ?_, ?_, ?_⟩ <;> omega
    split at hr
    · rename_i hk; subst hk
      simp at z1 z3
      simp only [Bool.and_eq_true, has_iff] at hr
      refine ⟨?_, ?_, ?_, ?_⟩ <;> omega
    split at hr
    · rename_i hk; subst hk
      simp at z1 z3
      simp only [Bool.and_eq_true, has_iff] at hr
      refine ⟨?_, ?_, ?_, ?_⟩ <;> omega
    split at hr
    · rename_i hk; subst hk
      simp at z1 z3
      simp only [decide_eq_true_eq] at hr
      refine ⟨?_, ?_, ?_, ?_⟩ <;> omega
    · cases hr
  exact ⟨core.1, core.2.1, core.2.2.1, core.2.2.2, hw.nb, hw.pb, hw.nl, hw.pl⟩
theorem take_next {α : Type} {l : List α} {j : Nat} {x : α} (h : l[j]? = some x) : l.take (j + 1) = l.take j ++ [x] := by rw [List.take_add_one, h]; rfl
set_option maxRecDepth 100000 in
set_option maxHeartbeats 1600000 in
theorem rsum_any (t : Tm) (vn vp : Value) (w : World) (hn : HasI w vn t.names) (hp : HasP w vp t.pairs) (hB : t.Bd) :
    Calls Tryz.prog 85 #[tmV t vn vp] w fun r w' => r = .returned (.int .i64 t.hash) ∧ Below w.heap.size w w' := by
  obtain ⟨W, hW⟩ : ∃ W, W = w.alloc (.cells #[.int .i64 t.kind, .int .i64 t.label, .int .i64 t.a, .int .i64 t.b, vn, vp] 35) := ⟨_, rfl⟩
  have hb : Below w.heap.size w W := by rw [hW]; exact (Below.refl _ _).alloc (Nat.le_refl _) _
  have hX : W.heap[w.heap.size]? = some (.cells #[.int .i64 t.kind, .int .i64 t.label, .int .i64 t.a, .int .i64 t.b, vn, vp] 35 (0, 0)) := by rw [hW]; exact (MapKept.heap_alloc w _).1
  obtain ⟨an, cn, rfl, hcn⟩ := hn.below hb
  obtain ⟨ap, cp, rfl, hcp⟩ := hp.below hb
  obtain ⟨x0, x1, x2, x3, x4, x5, xf⟩ := six6 hX
  obtain ⟨k, l, a, b, ns, ps⟩ := t
  have b1 := hB.k; have b2 := hB.l; have b3 := hB.a; have b4 := hB.b; have b5 := hB.nl; have b6 := hB.pl
  simp only at b1 b2 b3 b4 b5 b6 hcn hcp x0 x1 x2 x3 x4 x5
  obtain ⟨n, hN⟩ : ∃ n, n = ns.length := ⟨_, rfl⟩
  obtain ⟨m, hM⟩ : ∃ m, m = ps.length := ⟨_, rfl⟩
  obtain ⟨s, hs⟩ : ∃ s, s = k + 31 * a + 17 * b + 7 * l := ⟨_, rfl⟩
  simp only at hW
  rw [← hN, ← hM] at hW
  have HH : Hid _ := And.intro hB (And.intro hcn (And.intro hcp (And.intro hN (And.intro hM (And.intro hb (And.intro hW hs))))))
  unfold tmV
  simp only
  rw [← hN] at b5 x4 ⊢
  rw [← hM] at b6 x5 ⊢
  clear hB hcn hcp hN hM hX hb hs hn hp hW
  go_enter Tryz.func85, Tryz.ntmps85
  go_wp2_with fail
  rw [← HH.out.2.2.2.2.2.2.1]
  go_loopg [3, 4] n (fun g v i wr => ∃ j : Nat, g = n - j ∧ j ≤ n ∧ i = .int .i64 j ∧ v = .int .i64 (Tm.s1 (ns.take j) (k + 31 * a + 17 * b + 7 * l)) ∧ W = wr)
  case atStart => exact ⟨0, rfl, Nat.zero_le _, rfl, rfl, rfl⟩
  case round =>
    obtain ⟨j, rfl, hj, rfl, rfl, rfl⟩ := hrel
    have hbd := HH.out.1.s1 j
    obtain ⟨v, hv⟩ : ∃ v, v = Tm.s1 (ns.take j) (k + 31 * a + 17 * b + 7 * l) := ⟨_, rfl⟩
    have hbd' : 0 ≤ v ∧ v ≤ 101000000 := by rw [hv]; exact hbd
    rw [← hv]
    have HV : Hid _ := hv
    clear hv hbd
    by_cases hlt : j < n
    · obtain ⟨z, hz⟩ : ∃ z, ns[j]? = some z := ⟨ns[j]'(by have := HH.out.2.2.2.1; omega), List.getElem?_eq_getElem _⟩
      obtain ⟨aa, rfl, c0⟩ := HH.out.2.1 j z hz
      have q0 : (0 : Int) ≤ (j : Int) := by omega
      have q1 : (j : Int) < (n : Int) := by omega
      have hzb := HH.out.1.nb z (List.mem_of_getElem? hz)
      have HZ : Hid (Tm.s1 (ns.take (j + 1)) (k + 31 * a + 17 * b + 7 * l) = v + 3 * z) := (by rw [take_next hz, Tm.s1_snoc, HV.out] : Tm.s1 (ns.take (j + 1)) (k + 31 * a + 17 * b + 7 * l) = v + 3 * z)
      clear hz
      go_wp2_with fail
      go_roundg (n - (j + 1))
      case measure => omega
      case rel => exact ⟨j + 1, rfl, by omega, by go_num, by rw [HZ.out], rfl⟩
    · obtain rfl : j = n := by omega
      have q1 : ¬ (j : Int) < (j : Int) := by omega
      go_wp2_with fail
      have HV2 : Hid (v = Tm.s1 ns (k + 31 * a + 17 * b + 7 * l)) := (by rw [HV.out, List.take_of_length_le (by have := HH.out.2.2.2.1; omega)] : v = Tm.s1 ns (k + 31 * a + 17 * b + 7 * l))
      go_loopg [3, 5] m (fun g u i wr => ∃ (p q : Nat), g = m - p ∧ p ≤ m ∧ i = .int .i64 p ∧ u = .int .i64 (Tm.s2 (ps.take p) (Tm.s1 ns (k + 31 * a + 17 * b + 7 * l))) ∧ wr = W.drewN q)
      case atStart => exact ⟨0, 0, rfl, Nat.zero_le _, rfl, by rw [HV2.out]; rfl, rfl⟩
      case round =>
        obtain ⟨p, q, rfl, hp, rfl, rfl, rfl⟩ := hrel
        have hbd := HH.out.1.s2 p
        obtain ⟨y, hy⟩ : ∃ y, y = Tm.s2 (ps.take p) (Tm.s1 ns (k + 31 * a + 17 * b + 7 * l)) := ⟨_, rfl⟩
        have hbe : 0 ≤ y ∧ y ≤ 102000000 := by rw [hy]; exact hbd
        rw [← hy]
        have HY : Hid _ := hy
        clear hy hbd
        by_cases hpt : p < m
        · obtain ⟨⟨zo, zn⟩, hz⟩ : ∃ z, ps[p]? = some z := ⟨ps[p]'(by have := HH.out.2.2.2.2.1; omega), List.getElem?_eq_getElem _⟩
          obtain ⟨aa, rfl, c0, c1⟩ := HH.out.2.2.1 p _ hz
          have r0 : (0 : Int) ≤ (p : Int) := by omega
          have r1 : (p : Int) < (m : Int) := by omega
          have hzb := HH.out.1.pb _ (List.mem_of_getElem? hz)
          simp only at c0 c1 hzb
          have d2 : W.cell? ((aa.add (p * 2)).add 1) = some (.int .i64 zn) := by rw [add_two]; exact c1
          have d3 : W.cell? ⟨(aa.add (p * 2)).block, (aa.add (p * 2)).off + 1, none⟩ = some (.int .i64 zn) := by rw [← d2]; rfl
          have HZ : Hid (Tm.s2 (ps.take (p + 1)) (Tm.s1 ns (k + 31 * a + 17 * b + 7 * l)) = y + 5 * zo + 11 * zn) := (by rw [take_next hz, Tm.s2_snoc, HY.out] : Tm.s2 (ps.take (p + 1)) (Tm.s1 ns (k + 31 * a + 17 * b + 7 * l)) = y + 5 * zo + 11 * zn)
          clear hz
          go_wp2_with fail
          go_quiet (fail)
          go_wp2
          go_roundg (m - (p + 1))
          case measure => omega
          case rel => exact ⟨p + 1, _, rfl, by omega, by go_num, by rw [HZ.out], by first | rfl | exact World.drewN_drewN _ _ _⟩
        · obtain rfl : p = m := by omega
          have r1 : ¬ (p : Int) < (p : Int) := by omega
          have HF : Hid ((y % 512).toNat = (⟨k, l, a, b, ns, ps⟩ : Tm).hash) := (by
            rw [HY.out, List.take_of_length_le (by have := HH.out.2.2.2.2.1; omega)]; rfl : (y % 512).toNat = (⟨k, l, a, b, ns, ps⟩ : Tm).hash)
          have e9 : y.tmod 512 = (((y % 512).toNat : Nat) : Int) := by rw [Int.tmod_eq_emod_of_nonneg hbe.1]; omega
          go_wp2_with fail
          go_ret
          exact ⟨by rw [← HF.out]; have e : max (y % 512) 0 = (((y % 512).toNat : Nat) : Int) := (by omega); show Ending.returned (.int .i64 (max (y % 512) 0)) = _; rw [e], below_drewN HH.out.2.2.2.2.2.1 _⟩
end Go.Proofs.YthnenpncajpibaaGreatDoor
/- Contracts of the book's SameInts, SamePairs, SameTerm, whatever the lists. -/
namespace Go.Proofs.YthnenpncajpibaaGreatDoor
open Go.RowKit Go.Maps
theorem eq_len {α : Type} {a b : List α} {n : Nat} (ha : a.length = n) (hb : b.length = n) (h : a.take n = b.take n) : a = b := by
  rw [List.take_of_length_le (by omega), List.take_of_length_le (by omega)] at h
  exact h
theorem take_both {α : Type} {a b : List α} {j : Nat} {x : α} (ha : a[j]? = some x) (hb : b[j]? = some x) (h : a.take j = b.take j) : a.take (j + 1) = b.take (j + 1) := by
  rw [take_succ_of ha, take_succ_of hb, h]
set_option maxRecDepth 100000 in
set_option maxHeartbeats 1000000 in
theorem sameInts_b (va vb : Value) (za zb : List Int) (w : World) (hn : za.length ≤ 1000000000000000) (hm : zb.length ≤ 1000000000000000) (hA : HasI w va za) (hB : HasI w vb zb) :
    Calls Tryz.prog 14 #[va, vb] w fun e w' => e = .returned (.bool (za == zb)) ∧ Below w.heap.size w w' := by
  obtain ⟨ao, cap, rfl, hcA⟩ := hA
  obtain ⟨ao', cap', rfl, hcB⟩ := hB
  by_cases hlen : za.length = zb.length
  · obtain ⟨n, hN⟩ : ∃ n, n = za.length := ⟨_, rfl⟩
    have HH : Hid _ := And.intro hcA (And.intro hcB (And.intro hN (hN.trans hlen)))
    rw [← hlen, ← hN]
    rw [← hN] at hn
    clear hcA hcB hN hlen hm
    have q : ((n : Int) != (n : Int)) = false := by simp
    go_enter Tryz.func14, Tryz.ntmps14
    go_wp2
    go_loopg [5] n (fun g i wr => ∃ j m : Nat, g = n - j ∧ j ≤ n ∧ i = .int .i64 j ∧ za.take j = zb.take j ∧ wr = w.drewN m)
    case atStart => exact ⟨0, 0, rfl, Nat.zero_le _, rfl, rfl, rfl⟩
    case round =>
      obtain ⟨j, m, rfl, hj, rfl, heq, rfl⟩ := hrel
      have HQ : Hid _ := heq
      clear heq
      by_cases hlt : j < n
      · obtain ⟨x, hx⟩ : ∃ z, za[j]? = some z := ⟨za[j]'(by have := HH.out.2.2.1; omega), List.getElem?_eq_getElem _⟩
        obtain ⟨y, hy⟩ : ∃ z, zb[j]? = some z := ⟨zb[j]'(by have := HH.out.2.2.2; omega), List.getElem?_eq_getElem _⟩
        obtain ⟨a, rfl, c0⟩ := HH.out.1 j x hx
        obtain ⟨b, rfl, d0⟩ := HH.out.2.1 j y hy
        have q0 : (0 : Int) ≤ (j : Int) := by omega
        have q1 : (j : Int) < (n : Int) := by omega
        by_cases hxy : x = y
        · subst hxy
          have HT : Hid _ := take_both hx hy HQ.out
          clear hx hy
          go_wp2_with fail
          go_quiet (fail)
          go_wp2
          go_roundg (n - (j + 1))
          case measure => omega
          case rel => exact ⟨j + 1, _, rfl, by omega, by go_num, HT.out, by first | rfl | exact World.drewN_drewN _ _ _⟩
        · have e1 : (x == y) = false := by simpa using hxy
          have HF : Hid ((za == zb) = false) := (by
            rw [beq_eq_false_iff_ne]
            rintro rfl
            rw [hx] at hy
            exact hxy (Option.some.inj hy) : (za == zb) = false)
          clear hx hy hxy
          go_wp2_with fail
          go_quiet (fail)
          go_wp2
          go_ret
          exact ⟨by rw [HF.out]; rfl, by first | exact below_drewN (below_drewN (Below.refl _ _) _) _ | exact below_drewN (Below.refl _ _) _⟩
      · obtain rfl : j = n := by omega
        have q1 : ¬ (j : Int) < (j : Int) := by omega
        have HF : Hid ((za == zb) = true) := (by
          rw [beq_iff_eq]
          exact eq_len HH.out.2.2.1.symm HH.out.2.2.2.symm HQ.out : (za == zb) = true)
        go_wp2
        go_ret
        exact ⟨by rw [HF.out]; rfl, below_drewN (Below.refl _ _) _⟩
  · have q : ((za.length : Int) != (zb.length : Int)) = true := by rw [bne_iff_ne]; omega
    have HF : Hid ((za == zb) = false) := (by rw [beq_eq_false_iff_ne]; rintro rfl; exact hlen rfl : (za == zb) = false)
    clear hcA hcB hlen
    go_enter Tryz.func14, Tryz.ntmps14
    go_wp2
    go_ret
    exact ⟨by rw [HF.out]; rfl, Below.refl _ _⟩
set_option maxRecDepth 100000 in
set_option maxHeartbeats 1000000 in
theorem samePairs_b (va vb : Value) (za zb : List (Int × Int)) (w : World) (hn : za.length ≤ 1000000000000000) (hm : zb.length ≤ 1000000000000000) (hA : HasP w va za) (hB : HasP w vb zb) :
    Calls Tryz.prog 79 #[va, vb] w fun e w' => e = .returned (.bool (za == zb)) ∧ Below w.heap.size w w' := by
  obtain ⟨ao, cap, rfl, hcA⟩ := hA
  obtain ⟨ao', cap', rfl, hcB⟩ := hB
  by_cases hlen : za.length = zb.length
  · obtain ⟨n, hN⟩ : ∃ n, n = za.length := ⟨_, rfl⟩
    have HH : Hid _ := And.intro hcA (And.intro hcB (And.intro hN (hN.trans hlen)))
    rw [← hlen, ← hN]
    rw [← hN] at hn
    clear hcA hcB hN hlen hm
    have q : ((n : Int) != (n : Int)) = false := by simp
    go_enter Tryz.func79, Tryz.ntmps79
    go_wp2
    go_loopg [5] n (fun g i wr => ∃ j m : Nat, g = n - j ∧ j ≤ n ∧ i = .int .i64 j ∧ za.take j = zb.take j ∧ wr = w.drewN m)
    case atStart => exact ⟨0, 0, rfl, Nat.zero_le _, rfl, rfl, rfl⟩
    case round =>
      obtain ⟨j, m, rfl, hj, rfl, heq, rfl⟩ := hrel
      have HQ : Hid _ := heq
      clear heq
      by_cases hlt : j < n
      · obtain ⟨⟨x, x'⟩, hx⟩ : ∃ z, za[j]? = some z := ⟨za[j]'(by have := HH.out.2.2.1; omega), List.getElem?_eq_getElem _⟩
        obtain ⟨⟨y, y'⟩, hy⟩ : ∃ z, zb[j]? = some z := ⟨zb[j]'(by have := HH.out.2.2.2; omega), List.getElem?_eq_getElem _⟩
        obtain ⟨a, rfl, c0, c1⟩ := HH.out.1 j _ hx
        obtain ⟨b, rfl, d0, d1⟩ := HH.out.2.1 j _ hy
        simp only at c0 c1 d0 d1
        have c2 : w.cell? ((a.add (j * 2)).add 1) = some (.int .i64 x') := by rw [add_two]; exact c1
        have c3 : w.cell? ⟨(a.add (j * 2)).block, (a.add (j * 2)).off + 1, none⟩ = some (.int .i64 x') := by rw [← c2]; rfl
        have d2 : w.cell? ((b.add (j * 2)).add 1) = some (.int .i64 y') := by rw [add_two]; exact d1
        have d3 : w.cell? ⟨(b.add (j * 2)).block, (b.add (j * 2)).off + 1, none⟩ = some (.int .i64 y') := by rw [← d2]; rfl
        have q0 : (0 : Int) ≤ (j : Int) := by omega
        have q1 : (j : Int) < (n : Int) := by omega
        by_cases hxy : x = y ∧ x' = y'
        · obtain ⟨rfl, rfl⟩ := hxy
          have HT : Hid _ := take_both hx hy HQ.out
          clear hx hy
          go_wp2_with fail
          go_quiet (fail)
          go_wp2
          go_roundg (n - (j + 1))
          case measure => omega
          case rel => exact ⟨j + 1, _, rfl, by omega, by go_num, HT.out, by first | rfl | exact World.drewN_drewN _ _ _⟩
        · have HF : Hid ((za == zb) = false) := (by
            rw [beq_eq_false_iff_ne]
            rintro rfl
            rw [hx] at hy
            have := Option.some.inj hy
            exact hxy ⟨congrArg Prod.fst this, congrArg Prod.snd this⟩ : (za == zb) = false)
          clear hx hy
          by_cases h1 : x = y
          · have h2 : ¬ x' = y' := fun e => hxy ⟨h1, e⟩
            have e1 : (x == y) = true := by simpa using h1
            have e2 : (x' == y') = false := by simpa using h2
            clear hxy h1 h2
            go_wp2_with fail
            go_quiet (fail)
            go_wp2
            go_ret
            exact ⟨by rw [HF.out]; rfl, by first | exact below_drewN (below_drewN (Below.refl _ _) _) _ | exact below_drewN (Below.refl _ _) _⟩
          · have e1 : (x == y) = false := by simpa using h1
            clear hxy h1
            go_wp2_with fail
            go_quiet (fail)
            go_wp2
            go_ret
            exact ⟨by rw [HF.out]; rfl, by first | exact below_drewN (below_drewN (Below.refl _ _) _) _ | exact below_drewN (Below.refl _ _) _⟩
      · obtain rfl : j = n := by omega
        have q1 : ¬ (j : Int) < (j : Int) := by omega
        have HF : Hid ((za == zb) = true) := (by
          rw [beq_iff_eq]
          exact eq_len HH.out.2.2.1.symm HH.out.2.2.2.symm HQ.out : (za == zb) = true)
        go_wp2
        go_ret
        exact ⟨by rw [HF.out]; rfl, below_drewN (Below.refl _ _) _⟩
  · have q : ((za.length : Int) != (zb.length : Int)) = true := by rw [bne_iff_ne]; omega
    have HF : Hid ((za == zb) = false) := (by rw [beq_eq_false_iff_ne]; rintro rfl; exact hlen rfl : (za == zb) = false)
    clear hcA hcB hlen
    go_enter Tryz.func79, Tryz.ntmps79
    go_wp2
    go_ret
    exact ⟨by rw [HF.out]; rfl, Below.refl _ _⟩
end Go.Proofs.YthnenpncajpibaaGreatDoor
/- errors.Is at a fault of package api that wraps one of api's errors, and a target that is one of api's errors: true just if it is that one. -/
namespace Go.Proofs.YthnenpncajpibaaGreatDoor
open Go.RowKit Go.Extern.Stop Go.Stop Go.Extern
theorem Tryz.isTypeOf (v : Value) (w : World) : (Extern.ReflectliteType.typeOf #[.iface 201 v]).run Tryz.prog w = .ok (.iface 191 (.agg #[.pointer (some ⟨19, 201, none⟩)])) w := by kernel_rfl
/-- The model's entry for reflectlite's Comparable. -/
def cmpEntry : Array Value → Sem Value := Extern.ReflectliteType.method fun t => do
  Rtype.noPackHeld "Comparable" t
  pure (.bool (← typeInfo t).comparable)
theorem Tryz.isComparable (w : World) : (cmpEntry #[.agg #[.pointer (some ⟨19, 201, none⟩)]]).run Tryz.prog w = .ok (.bool true) w := by kernel_rfl
theorem Tryz.isMethodComparable (v : Value) (w : World) : (Go.method 337 191 v "Comparable").run Tryz.prog w = .ok (159, v) w := by kernel_rfl
theorem Tryz.isComp : (Tryz.prog.info? 201).map (·.comparable) = some true := by kernel_rfl
theorem Tryz.isSize : (Tryz.prog.info? 225).map (·.size) = some 1 := by kernel_rfl
theorem Tryz.noIsE (v : Value) (xT : TypeId) (w : World) : (Instr.typeAssert (.iface 201 v) xT 193 true).run Tryz.prog w = .ok (.tuple #[.nilIface, .bool false]) w := run_typeAssert_lacksB Tryz.underlying193 (by kernel_rfl) (by kernel_rfl) v xT w
theorem Tryz.noUnwrapE (v : Value) (xT : TypeId) (w : World) : (Instr.typeAssert (.iface 201 v) xT 196 true).run Tryz.prog w = .ok (.tuple #[.nilIface, .bool false]) w := run_typeAssert_lacksB Tryz.underlying196 (by kernel_rfl) (by kernel_rfl) v xT w
theorem Tryz.noUnwrapsE (v : Value) (xT : TypeId) (w : World) : (Instr.typeAssert (.iface 201 v) xT 198 true).run Tryz.prog w = .ok (.tuple #[.nilIface, .bool false]) w := run_typeAssert_lacksB Tryz.underlying198 (by kernel_rfl) (by kernel_rfl) v xT w
theorem Tryz.noIsW (v : Value) (xT : TypeId) (w : World) : (Instr.typeAssert (.iface 124 v) xT 193 true).run Tryz.prog w = .ok (.tuple #[.nilIface, .bool false]) w := run_typeAssert_lacksB Tryz.underlying193 (by kernel_rfl) (by kernel_rfl) v xT w
theorem Tryz.hasUnwrapW (v : Value) (xT : TypeId) (w : World) : (Instr.typeAssert (.iface 124 v) xT 196 true).run Tryz.prog w = .ok (.tuple #[.iface 124 v, .bool true]) w := run_typeAssert_hasB Tryz.underlying196 (by kernel_rfl) v xT w
theorem Tryz.methodUnwrap (v : Value) (w : World) : (Go.method 337 124 v "Unwrap").run Tryz.prog w = .ok (155, v) w := by kernel_rfl

set_option maxHeartbeats 1000000 in
/-- errors.Is(f, x), f a fault that wraps x itself. -/
theorem is_fault_same (pb : Nat) (b : Addr) (w : World) (h1 : w.cell? ⟨pb, 3, none⟩ = some (.iface 201 (.pointer (some b)))) :
    Calls Tryz.prog 126 #[.iface 124 (.pointer (some ⟨pb, 0, none⟩)), .iface 201 (.pointer (some b))] w fun e w' => e = .returned (.bool true) ∧ w' = w := by
  obtain ⟨i, hi, hcmp⟩ := Option.map_eq_some_iff.1 Tryz.isComp
  obtain ⟨j, hj, hjs⟩ := Option.map_eq_some_iff.1 Tryz.isSize
  have h8 := @run_callFunc_extern Tryz.prog 135 _ Extern.ReflectliteType.typeOf Tryz.func135 (by kernel_rfl) (by kernel_rfl) (by kernel_rfl) (by kernel_rfl)
  have h32 := @run_callFunc_extern Tryz.prog 159 _ cmpEntry Tryz.func159 (by kernel_rfl) (by kernel_rfl) (by kernel_rfl) (by kernel_rfl)
  have tT := Tryz.isTypeOf
  have cT := Tryz.isComparable
  have mR := Tryz.isMethodComparable
  have nE := Tryz.noIsE
  have uE := Tryz.noUnwrapE
  have vE := Tryz.noUnwrapsE
  have nW := Tryz.noIsW
  have uW := Tryz.hasUnwrapW
  have mU := Tryz.methodUnwrap
  have heq := run_eql_iface_ptr_same (P := Tryz.prog) w b Tryz.underlying51 Tryz.underlying201 hi hcmp hj
  have hty := run_eql_iface_types (P := Tryz.prog) 124 201 (.pointer (some ⟨pb, 0, none⟩)) (.pointer (some b)) Tryz.underlying51 (by decide) w
  go_enter Tryz.func126, Tryz.ntmps126
  go_wp2
  refine wp_loop_rounds 2 ?_
  rw [rounds_succ]
  go_wp2
  rw [rounds_succ]
  go_wp2
  go_ret
  exact ⟨rfl, rfl⟩
set_option maxHeartbeats 1000000 in
/-- errors.Is(f, x), f a fault that wraps another one of api's errors. -/
theorem is_fault_other (pb : Nat) (b a : Addr) (ca cb : Array Value) (ta tb : TypeId) (w : World) (h1 : w.cell? ⟨pb, 3, none⟩ = some (.iface 201 (.pointer (some a)))) (hne : a ≠ b) (ha : w.heap[a.block]? = some (.cells ca ta (0, 0))) (hb : w.heap[b.block]? = some (.cells cb tb (0, 0))) :
    Calls Tryz.prog 126 #[.iface 124 (.pointer (some ⟨pb, 0, none⟩)), .iface 201 (.pointer (some b))] w fun e w' => e = .returned (.bool false) ∧ w' = w := by
  obtain ⟨i, hi, hcmp⟩ := Option.map_eq_some_iff.1 Tryz.isComp
  obtain ⟨j, hj, hjs⟩ := Option.map_eq_some_iff.1 Tryz.isSize
  have h8 := @run_callFunc_extern Tryz.prog 135 _ Extern.ReflectliteType.typeOf Tryz.func135 (by kernel_rfl) (by kernel_rfl) (by kernel_rfl) (by kernel_rfl)
  have h32 := @run_callFunc_extern Tryz.prog 159 _ cmpEntry Tryz.func159 (by kernel_rfl) (by kernel_rfl) (by kernel_rfl) (by kernel_rfl)
  have tT := Tryz.isTypeOf
  have cT := Tryz.isComparable
  have mR := Tryz.isMethodComparable
  have nE := Tryz.noIsE
  have uE := Tryz.noUnwrapE
  have vE := Tryz.noUnwrapsE
  have nW := Tryz.noIsW
  have uW := Tryz.hasUnwrapW
  have mU := Tryz.methodUnwrap
  have heq := run_eql_iface_ptr_other (P := Tryz.prog) w Tryz.underlying51 Tryz.underlying201 hi hcmp hj (by rw [hjs]; decide) hne ha hb
  have hty := run_eql_iface_types (P := Tryz.prog) 124 201 (.pointer (some ⟨pb, 0, none⟩)) (.pointer (some b)) Tryz.underlying51 (by decide) w
  go_enter Tryz.func126, Tryz.ntmps126
  go_wp2
  refine wp_loop_rounds 2 ?_
  rw [rounds_succ]
  go_wp2
  rw [rounds_succ]
  go_wp2
  go_ret
  exact ⟨rfl, rfl⟩
end Go.Proofs.YthnenpncajpibaaGreatDoor
/- What a statement knows of one of api's errors in memory. -/
namespace Go.Proofs.YthnenpncajpibaaGreatDoor
open Go.RowKit
/-- The package variable number g holds the error at a, which lies in memory. -/
def Sent (w : World) (g : Nat) (a : Addr) : Prop := w.cell? ⟨g, 0, none⟩ = some (.iface 201 (.pointer (some a))) ∧ ∃ c t, w.heap[a.block]? = some (.cells c t (0, 0))
theorem Sent.below {w w1 : World} {g : Nat} {a : Addr} (h : Sent w g a) (hb : Below w.heap.size w w1) : Sent w1 g a := by
  obtain ⟨h1, c, t, h2⟩ := h
  exact ⟨(hb.cell (World.block_lt_of_cell? w _ h1)).trans h1, c, t, by rw [hb.block _ (lt_of_block h2)]; exact h2⟩
end Go.Proofs.YthnenpncajpibaaGreatDoor
/- Contract of the book's SameTerm; api.Code at a fault that wraps ErrArg. -/
namespace Go.Proofs.YthnenpncajpibaaGreatDoor
open Go.RowKit Go.Maps
/-- Are two terms the same? -/
def Tm.same (s t : Tm) : Bool := s.kind == t.kind && (s.label == t.label && (s.a == t.a && (s.b == t.b && (s.names == t.names && s.pairs == t.pairs))))
theorem same_iff (s t : Tm) : s.same t = true ↔ s = t := by
  obtain ⟨k, l, a, b, ns, ps⟩ := s
  obtain ⟨k', l', a', b', ns', ps'⟩ := t
  simp [Tm.same]
theorem same_ne {s t : Tm} (h : s ≠ t) : s.same t = false := by
  cases e : s.same t with
  | false => rfl
  | true => exact absurd ((same_iff s t).1 e) h
theorem same_self (s : Tm) : s.same s = true := (same_iff s s).2 rfl
set_option maxRecDepth 100000 in
set_option maxHeartbeats 1600000 in
theorem sameTerm_b (s t : Tm) (vn vp un up : Value) (w : World) (hn : HasI w vn s.names) (hp : HasP w vp s.pairs) (kn : HasI w un t.names) (kp : HasP w up t.pairs) (l1 : s.names.length ≤ 1000000000000000) (l2 : s.pairs.length ≤ 1000000000000000) (l3 : t.names.length ≤ 1000000000000000) (l4 : t.pairs.length ≤ 1000000000000000) :
    Calls Tryz.prog 19 #[tmV s vn vp, tmV t un up] w fun e w' => e = .returned (.bool (s.same t)) ∧ Below w.heap.size w w' := by
  have HI : Hid (∀ W, Below w.heap.size w W → Calls Tryz.prog 14 #[vn, un] W fun e w' => e = .returned (.bool (s.names == t.names)) ∧ Below W.heap.size W w') := fun W hb => sameInts_b vn un s.names t.names W l1 l3 (hn.below hb) (kn.below hb)
  have HP : Hid (∀ W, Below w.heap.size w W → Calls Tryz.prog 79 #[vp, up] W fun e w' => e = .returned (.bool (s.pairs == t.pairs)) ∧ Below W.heap.size W w') := fun W hb => samePairs_b vp up s.pairs t.pairs W l2 l4 (hp.below hb) (kp.below hb)
  obtain ⟨an, cn, rfl, _⟩ := hn
  obtain ⟨ap, cp, rfl, _⟩ := hp
  obtain ⟨bn, dn, rfl, _⟩ := kn
  obtain ⟨bp, dp, rfl, _⟩ := kp
  obtain ⟨k, l, a, b, ns, ps⟩ := s
  obtain ⟨k', l', a', b', ns', ps'⟩ := t
  simp only at HI HP l1 l2 l3 l4 ⊢
  unfold tmV Tm.same
  simp only
  generalize (ns == ns') = e5 at HI ⊢
  generalize (ps == ps') = e6 at HP ⊢
  generalize ns.length = n1 at *
  generalize ns'.length = n2 at *
  generalize ps.length = n3 at *
  generalize ps'.length = n4 at *
  go_enter Tryz.func19, Tryz.ntmps19
  go_wp2_with (first | (go_at_call 14; refine (HI.out _ (by repeat (first | exact Below.refl _ _ | assumption | refine Below.drew ?_ | refine Below.setCell ?_ (by simp) _ | refine Below.alloc ?_ (by simp) _))).mono ?_; rintro r1 w1 ⟨rfl, hb1⟩; obtain ⟨hc1, hf1⟩ := bcell hb1; have hz1 : w.heap.size + 1 < w1.heap.size := (by have := hb1.size; simp at this; omega); have hB1 : Below w.heap.size w w1 := Below.trans (by repeat (first | exact Below.refl _ _ | assumption | refine Below.drew ?_ | refine Below.setCell ?_ (by simp) _ | refine Below.alloc ?_ (by simp) _)) (hb1.mono (by simp; omega)); clear hb1 hf1) | (go_at_call 79; refine (HP.out _ (by repeat (first | exact Below.refl _ _ | assumption | refine Below.drew ?_ | refine Below.setCell ?_ (by simp) _ | refine Below.alloc ?_ (by simp) _))).mono ?_; rintro r2 w2 ⟨rfl, hb2⟩; have hB2 : Below w.heap.size w w2 := hB1.trans (hb2.mono hB1.size); clear hb2))
  all_goals (go_ret; refine ⟨?_, (by repeat (first | exact Below.refl _ _ | assumption | refine Below.drew ?_ | refine Below.setCell ?_ (by simp) _ | refine Below.alloc ?_ (by simp) _))⟩; first | (simp [*]; done) | (simp [*]; omega))
set_option maxHeartbeats 1000000 in
theorem code_arg3 (pb : Nat) (aA : Addr) (w : World) (hE : w.cell? ⟨0, 0, none⟩ = some (.iface 201 (.pointer (some aA)))) (h1 : w.cell? ⟨pb, 3, none⟩ = some (.iface 201 (.pointer (some aA)))) :
    Calls Tryz.prog 89 #[.iface 124 (.pointer (some ⟨pb, 0, none⟩))] w fun e w' => e = .returned (.int .i64 1) ∧ w' = w := by
  go_enter Tryz.func89, Tryz.ntmps89
  go_wp2_with fail
  refine (is_fault_same pb aA _ h1).mono ?_
  rintro e w' ⟨rfl, rfl⟩
  go_wp2_with fail
  go_ret
  exact ⟨rfl, rfl⟩
end Go.Proofs.YthnenpncajpibaaGreatDoor
