/- Contract of Get. -/
import Derived.Test.YthnenpncajpibaaGreatDoorTmPut2
namespace Go.Proofs.YthnenpncajpibaaGreatDoor
open Go.RowKit Go.Maps
/-- A term of the store, as it lies in the row. -/
structure AtT (w : World) (b g cap n i : Nat) (t : Tm) (vn vp : Value) : Prop where
  c : w.cell? ⟨b, 0, none⟩ = some (.slice (some ⟨g, 0, none⟩) n cap)
  x0 : w.cell? ⟨g, i * 6, none⟩ = some (.int .i64 t.kind)
  x1 : w.cell? ⟨g, i * 6 + 1, none⟩ = some (.int .i64 t.label)
  x2 : w.cell? ⟨g, i * 6 + 2, none⟩ = some (.int .i64 t.a)
  x3 : w.cell? ⟨g, i * 6 + 3, none⟩ = some (.int .i64 t.b)
  x4 : w.cell? ⟨g, i * 6 + 4, none⟩ = some vn
  x5 : w.cell? ⟨g, i * 6 + 5, none⟩ = some vp
  n : HasI w vn t.names
  p : HasP w vp t.pairs
theorem StoB.at {w : World} {b : Nat} {L : List Tm} {F : Nat → Prop} (h : StoB w b L F) {i : Nat} {t : Tm} (hi : L[i]? = some t) : ∃ g cap vn vp, AtT w b g cap L.length i t vn vp ∧ F g ∧ (∀ k, vn.ownBlock = some k → F k) ∧ (∀ k, vp.ownBlock = some k → F k) := by
  obtain ⟨vt, vm, vs, hS, rfl⟩ := h
  have hlt := (List.getElem?_eq_some_iff.1 hi).1
  obtain ⟨g, cap, rfl, _, _⟩ := hS.row.form (by omega)
  have hv : vs[i]? = some (vs[i]'(by rw [hS.len]; exact hlt)) := List.getElem?_eq_getElem _
  obtain ⟨l1, l2⟩ := hS.lists i t _ hi hv
  have hr := rowC_at L vs hS.len i t _ hi hv
  have hc : ∀ k, k < 6 → w.cell? ⟨g, i * 6 + k, none⟩ = (tmC t (vs[i]'(by rw [hS.len]; exact hlt)).1 (vs[i]'(by rw [hS.len]; exact hlt)).2)[k]? := fun k hk => by
    rw [hS.row.cellAt (i * 6 + k) (by omega), hr k hk]
  exact ⟨g, cap, _, _, ⟨(t_cells hS.cell).1, hc 0 (by omega), hc 1 (by omega), hc 2 (by omega), hc 3 (by omega), hc 4 (by omega), hc 5 (by omega), l1.has, l2.has⟩, .inr (.inl rfl), fun k hk => .inr (.inr (.inr ⟨_, List.getElem_mem _, .inl hk⟩)), fun k hk => .inr (.inr (.inr ⟨_, List.getElem_mem _, .inr hk⟩))⟩
theorem AtT.below {w w' : World} {b g cap n i : Nat} {t : Tm} {vn vp : Value} (h : AtT w b g cap n i t vn vp) (hb : Below w.heap.size w w') : AtT w' b g cap n i t vn vp :=
  ⟨cell_up h.c hb, cell_up h.x0 hb, cell_up h.x1 hb, cell_up h.x2 hb, cell_up h.x3 hb, cell_up h.x4 hb, cell_up h.x5 hb, h.n.below hb, h.p.below hb⟩
/-- Six cells of a box written. -/
def set6 (w : World) (B : Nat) (a b c d e f : Value) : World := (((((w.setCell ⟨B, 0, none⟩ a).setCell ⟨B, 1, none⟩ b).setCell ⟨B, 2, none⟩ c).setCell ⟨B, 3, none⟩ d).setCell ⟨B, 4, none⟩ e).setCell ⟨B, 5, none⟩ f
theorem set6_other (w : World) (B : Nat) (a b c d e f : Value) (i : Nat) (h : i ≠ B) : (set6 w B a b c d e f).heap[i]? = w.heap[i]? := by
  unfold set6
  exact (set_other _ _ _ _ _ h).trans ((set_other _ _ _ _ _ h).trans ((set_other _ _ _ _ _ h).trans ((set_other _ _ _ _ _ h).trans ((set_other _ _ _ _ _ h).trans (set_other _ _ _ _ _ h)))))
theorem set6_below {w w2 : World} (a b c d e f : Value) (h : Below w.heap.size w w2) : Below w.heap.size w (set6 w2 w.heap.size a b c d e f) :=
  (((((h.setCell (Nat.le_refl _) _).setCell (Nat.le_refl _) _).setCell (Nat.le_refl _) _).setCell (Nat.le_refl _) _).setCell (Nat.le_refl _) _).setCell (Nat.le_refl _) _
theorem get_fin {w W w2 : World} {t : Tm} {v1 v2 : Value} {a b c d e f : Value} (hb : Below w.heap.size w W) (hlt : w.heap.size < W.heap.size) (h : Twin W w2 t v1 v2) : OwnI (set6 w2 w.heap.size a b c d e f) w.heap.size v1 t.names ∧ OwnP (set6 w2 w.heap.size a b c d e f) w.heap.size v2 t.pairs ∧ Below w.heap.size w (set6 w2 w.heap.size a b c d e f) :=
  ⟨row_base (trow_at h.n fun i hi => set6_other _ _ _ _ _ _ _ _ _ (by have := (h.n.lt i hi).1; omega)) hb.size, row_base (trow_at h.p fun i hi => set6_other _ _ _ _ _ _ _ _ _ (by have := (h.p.lt i hi).1; omega)) hb.size, set6_below _ _ _ _ _ _ (hb.trans (h.bl.mono hb.size))⟩
set_option maxRecDepth 100000 in
set_option maxHeartbeats 1600000 in
theorem get_yes (b : Nat) (L : List Tm) (F : Nat → Prop) (i : Nat) (t : Tm) (w : World) (hS : StoB w b L F) (hi : L[i]? = some t) :
    Calls Tryz.prog 17 #[.pointer (some ⟨b, 0, none⟩), .int .i64 i] w fun r w' => ∃ v1 v2, r = .returned (.tuple #[tmV t v1 v2, .nilIface]) ∧ OwnI w' w.heap.size v1 t.names ∧ OwnP w' w.heap.size v2 t.pairs ∧ Below w.heap.size w w' := by
  have hlt := (List.getElem?_eq_some_iff.1 hi).1
  have hwf := hS.wf t (List.mem_of_getElem? hi)
  have hbg := hS.big
  obtain ⟨W, hW⟩ : ∃ W, W = w.alloc (.cells #[.int .i64 0, .int .i64 0, .int .i64 0, .int .i64 0, .slice none 0 0, .slice none 0 0] 35) := ⟨_, rfl⟩
  have hb : Below w.heap.size w W := by rw [hW]; exact (Below.refl _ _).alloc (Nat.le_refl _) _
  have hX : W.heap[w.heap.size]? = some (.cells #[.int .i64 0, .int .i64 0, .int .i64 0, .int .i64 0, .slice none 0 0, .slice none 0 0] 35 (0, 0)) := by rw [hW]; exact (MapKept.heap_alloc w _).1
  obtain ⟨g, cap, vn, vp, hA, _⟩ := (hS.below hb).at hi
  have hl := lacks_no b (some ⟨g, 0, none⟩) L.length cap i W hA.c (by simp [Tm.has]; omega)
  have hT := twin_any t vn vp W hA.n hA.p (by have := hwf.nl; omega) (by have := hwf.pl; omega)
  unfold tmV at hT
  obtain ⟨an, cn, rfl, _⟩ := id hA.n
  obtain ⟨ap, cp, rfl, _⟩ := id hA.p
  obtain ⟨c0, y0, y1, y2, y3, y4, y5, _, _⟩ := hA
  have q0 : (0 : Int) ≤ (i : Int) := by omega
  have q1 : (i : Int) < (L.length : Int) := by omega
  have HM : Hid _ := And.intro hl (And.intro hT (And.intro hb (And.intro hW hX)))
  clear hl hT hb hW hX hS hwf hi
  go_enter Tryz.func17, Tryz.ntmps17
  go_wp2_with fail
  rw [← HM.out.2.2.2.1]
  refine HM.out.1.mono ?_
  rintro r w1 ⟨rfl, hw⟩
  obtain rfl := hw.symm
  go_wp2_with fail
  refine HM.out.2.1.mono ?_
  rintro r w2 ⟨v1, v2, rfl, hTw⟩
  obtain ⟨ao1, cap1, rfl⟩ := row_shape hTw.n
  obtain ⟨ao2, cap2, rfl⟩ := row_shape hTw.p
  have hX2 := (hTw.bl.block _ (t_lt HM.out.2.2.2.2)).trans HM.out.2.2.2.2
  obtain ⟨z0, z1, z2, z3, z4, z5, zf⟩ := six6 hX2
  have HT : Hid _ := hTw
  clear hTw hX2 c0 y0 y1 y2 y3 y4 y5
  go_wp2_with fail
  refine bodyPost_ret (v := .tuple #[tmV t (.slice ao1 t.names.length cap1) (.slice ao2 t.pairs.length cap2), .nilIface]) (by simp [results, Tryz.results17, go_sem, tmV, *]) rfl ⟨_, _, rfl, ?_⟩
  exact get_fin HM.out.2.2.1 (t_lt HM.out.2.2.2.2) HT.out
theorem get_no (b : Nat) (L : List Tm) (F : Nat → Prop) (i : Int) (T : TypeId) (u : Value) (w : World) (hS : StoB w b L F) (hi : Tm.has L.length i = false) (hE : w.cell? ⟨1, 0, none⟩ = some (.iface T u)) :
    Calls Tryz.prog 17 #[.pointer (some ⟨b, 0, none⟩), .int .i64 i] w fun r w' => (∃ g, r = .returned (.tuple #[tmV ⟨0, 0, 0, 0, [], []⟩ (.slice none 0 0) (.slice none 0 0), tFaultV g]) ∧ TermFault w' g (.iface T u) ∧ w.heap.size ≤ g) ∧ Below w.heap.size w w' := by
  obtain ⟨W, hW⟩ : ∃ W, W = w.alloc (.cells #[.int .i64 0, .int .i64 0, .int .i64 0, .int .i64 0, .slice none 0 0, .slice none 0 0] 35) := ⟨_, rfl⟩
  have hb : Below w.heap.size w W := by rw [hW]; exact (Below.refl _ _).alloc (Nat.le_refl _) _
  have hX : W.heap[w.heap.size]? = some (.cells #[.int .i64 0, .int .i64 0, .int .i64 0, .int .i64 0, .slice none 0 0, .slice none 0 0] 35 (0, 0)) := by rw [hW]; exact (MapKept.heap_alloc w _).1
  obtain ⟨ao, cap, hc⟩ := (hS.below hb).cell
  have hl := lacks_yes b ao L.length cap i T u W hc hi (cell_up hE hb)
  have HM : Hid _ := And.intro hl (And.intro hb (And.intro hW hX))
  clear hl hb hW hX hS hE hc
  go_enter Tryz.func17, Tryz.ntmps17
  go_wp2_with fail
  rw [← HM.out.2.2.1]
  refine HM.out.1.mono ?_
  rintro r w2 ⟨rfl, hF, hb2⟩
  have hX2 := (hb2.block _ (t_lt HM.out.2.2.2)).trans HM.out.2.2.2
  obtain ⟨z0, z1, z2, z3, z4, z5, zf⟩ := six6 hX2
  have hw2 : w.heap.size < W.heap.size := t_lt HM.out.2.2.2
  have HT : Hid _ := And.intro hF hb2
  clear hF hb2 hX2
  unfold tFaultV
  go_wp2_with fail
  refine bodyPost_ret (v := .tuple #[tmV ⟨0, 0, 0, 0, [], []⟩ (.slice none 0 0) (.slice none 0 0), tFaultV W.heap.size]) (by simp [results, Tryz.results17, go_sem, tmV, tFaultV, *]) rfl ⟨⟨_, rfl, ?_, by omega⟩, ?_⟩
  · unfold TermFault
    exact (set6_other w2 w.heap.size _ _ _ _ _ _ W.heap.size (by omega)).trans HT.out.1
  · exact set6_below _ _ _ _ _ _ (HM.out.2.1.trans (HT.out.2.mono HM.out.2.1.size))
end Go.Proofs.YthnenpncajpibaaGreatDoor
