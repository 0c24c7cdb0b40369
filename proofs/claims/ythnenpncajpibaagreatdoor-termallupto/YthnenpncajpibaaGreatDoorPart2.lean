/- Texts of this claim, joined: TmAdd, TmAdd0, TmPut. -/
import Derived.Test.YthnenpncajpibaaGreatDoorPart1
import Derived.Deep.RegionHeld3
import Derived.Deep.RegionLaw
import Derived.Deep.DrawnRows
/- Contract of the store's add: a new term stands behind the others. -/
namespace Go.Proofs.YthnenpncajpibaaGreatDoor
open Go.RowKit Go.Maps
attribute [local go_sem ↓] Go.wp_at_zero Go.wp_at_succ
theorem Tryz.infoT : (Tryz.prog.info? 35).map (fun i => (i.zero, i.size, i.bytes)) = some (some (.agg #[.int .i64 0, .int .i64 0, .int .i64 0, .int .i64 0, .slice none 0 0, .slice none 0 0]), 6, 80) := by kernel_rfl
theorem Tryz.eqMapS (bm : Nat) (w : World) : (binOp BinOp.eql 69 (.map (some bm)) (.map none)).run Tryz.prog w = .ok (.bool false) w := by kernel_rfl
theorem Tryz.eqMapN (w : World) : (binOp BinOp.eql 69 (.map none) (.map none)).run Tryz.prog w = .ok (.bool true) w := by kernel_rfl
theorem Tryz.zeroI3 (w : World) : (zeroValue 3).run Tryz.prog w = .ok (.int .i64 0) w := by kernel_rfl
theorem add_block (a : Addr) (i : Nat) : (a.add i).block = a.block := by unfold Addr.add; split <;> rfl
theorem cell_same {w w' : World} {a : Addr} {i : Nat} {v : Value} (hb : w'.heap[a.block]? = w.heap[a.block]?) (c : w.cell? (a.add i) = some v) : w'.cell? (a.add i) = some v := (World.cell?_of_block (a := a.add i) (by rw [add_block]; exact hb)).trans c
theorem block_lt3 {w : World} {a : Addr} {i : Nat} {v : Value} (c : w.cell? (a.add i) = some v) : a.block < w.heap.size := by have := World.block_lt_of_cell? w _ c; rw [add_block] at this; exact this
theorem HasI.at {w w' : World} {v : Value} {zs : List Int} (h : HasI w v zs) (hb : ∀ i, v.ownBlock = some i → w'.heap[i]? = w.heap[i]?) : HasI w' v zs := by
  obtain ⟨ao, cap, rfl, h2⟩ := h
  refine ⟨ao, cap, rfl, fun i z hi => ?_⟩
  obtain ⟨a, rfl, c⟩ := h2 i z hi
  exact ⟨a, rfl, cell_same (hb a.block rfl) c⟩
theorem HasP.at {w w' : World} {v : Value} {ps : List (Int × Int)} (h : HasP w v ps) (hb : ∀ i, v.ownBlock = some i → w'.heap[i]? = w.heap[i]?) : HasP w' v ps := by
  obtain ⟨ao, cap, rfl, h2⟩ := h
  refine ⟨ao, cap, rfl, fun i p hi => ?_⟩
  obtain ⟨a, rfl, c0, c1⟩ := h2 i p hi
  exact ⟨a, rfl, cell_same (hb a.block rfl) c0, cell_same (hb a.block rfl) c1⟩
/-- The term that is handed in: its lists, apart from the store. -/
structure Hand (w : World) (F : Nat → Prop) (t : Tm) (vn vp : Value) : Prop where
  n : HasI w vn t.names
  p : HasP w vp t.pairs
  fn : t.names ≠ [] → ∀ i, vn.ownBlock = some i → ¬ F i
  fp : t.pairs ≠ [] → ∀ i, vp.ownBlock = some i → ¬ F i
/-- The lists stand where other blocks turn. (Where a list has no element nothing is asked.) -/
theorem HasI.kept {w w' : World} {F : Nat → Prop} {v : Value} {zs : List Int} (h : HasI w v zs) (hk : Kept F w w') (hf : zs ≠ [] → ∀ i, v.ownBlock = some i → ¬ F i) : HasI w' v zs := by
  obtain ⟨ao, cap, rfl, h2⟩ := h
  refine ⟨ao, cap, rfl, fun i z hi => ?_⟩
  obtain ⟨a, rfl, c⟩ := h2 i z hi
  exact ⟨a, rfl, cell_same (hk.block _ (block_lt3 c) (hf (by rintro rfl; simp at hi) a.block rfl)) c⟩
theorem HasP.kept {w w' : World} {F : Nat → Prop} {v : Value} {ps : List (Int × Int)} (h : HasP w v ps) (hk : Kept F w w') (hf : ps ≠ [] → ∀ i, v.ownBlock = some i → ¬ F i) : HasP w' v ps := by
  obtain ⟨ao, cap, rfl, h2⟩ := h
  refine ⟨ao, cap, rfl, fun i p hi => ?_⟩
  obtain ⟨a, rfl, c0, c1⟩ := h2 i p hi
  exact ⟨a, rfl, cell_same (hk.block _ (block_lt3 c0) (hf (by rintro rfl; simp at hi) a.block rfl)) c0, cell_same (hk.block _ (block_lt3 c1) (hf (by rintro rfl; simp at hi) a.block rfl)) c1⟩
theorem Hand.kept {w w' : World} {F : Nat → Prop} {t : Tm} {vn vp : Value} (h : Hand w F t vn vp) (hk : Kept F w w') : Hand w' F t vn vp := ⟨h.n.kept hk h.fn, h.p.kept hk h.fp, h.fn, h.fp⟩
theorem Hand.below {w w' : World} {F : Nat → Prop} {t : Tm} {vn vp : Value} (h : Hand w F t vn vp) (hb : Below w.heap.size w w') : Hand w' F t vn vp := h.kept (.of_below hb)
/-- Ahead of the copy: the term lies in a box. -/
structure Add0 (w W : World) (b : Nat) (vt vm : Value) (L : List Tm) (vs : List (Value × Value)) (t : Tm) (vn vp : Value) : Prop where
  s : Sto W b vt vm L vs
  h : Hand W (Foot3 b vt vm vs) t vn vp
  box : W.heap[w.heap.size]? = some (.cells #[.int .i64 t.kind, .int .i64 t.label, .int .i64 t.a, .int .i64 t.b, vn, vp] 35 (0, 0))
  ob : b < w.heap.size
  ov : ∀ i, vt.ownBlock = some i → i < w.heap.size
  bl : Kept (Foot3 b vt vm vs) w W
theorem add0 {w : World} {b : Nat} {vt vm : Value} {L : List Tm} {vs : List (Value × Value)} {t : Tm} {vn vp : Value} (hS : Sto w b vt vm L vs) (hH : Hand w (Foot3 b vt vm vs) t vn vp) : Add0 w (w.alloc (.cells #[.int .i64 t.kind, .int .i64 t.label, .int .i64 t.a, .int .i64 t.b, vn, vp] 35)) b vt vm L vs t vn vp := by
  have hb : Below w.heap.size w (w.alloc (.cells #[.int .i64 t.kind, .int .i64 t.label, .int .i64 t.a, .int .i64 t.b, vn, vp] 35)) := (Below.refl _ _).alloc (Nat.le_refl _) _
  exact ⟨hS.below hb, hH.below hb, (MapKept.heap_alloc w _).1, t_lt hS.cell, fun i hi => hS.foot_lt (.inr (.inl hi)), .of_below hb⟩
theorem Add0.below {w W W' : World} {b : Nat} {vt vm : Value} {L : List Tm} {vs : List (Value × Value)} {t : Tm} {vn vp : Value} (h : Add0 w W b vt vm L vs t vn vp) (hb : Below W.heap.size W W') : Add0 w W' b vt vm L vs t vn vp :=
  ⟨h.s.below hb, h.h.below hb, (hb.block _ (t_lt h.box)).trans h.box, h.ob, h.ov, h.bl.trans (.of_below hb)⟩
theorem below_of_drew3 {w w1 : World} (h : Below w.drew.heap.size w.drew w1) : Below w.heap.size w w1 := (Below.refl _ w).drew.trans h
/-- Behind the copy. -/
structure Add1 (w W w1 : World) (b : Nat) (vt vm : Value) (L : List Tm) (vs : List (Value × Value)) (t : Tm) (vn vp v1 v2 : Value) : Prop where
  z : Add0 w w1 b vt vm L vs t vn vp
  n : OwnI w1 w.heap.size v1 t.names
  p : OwnP w1 w.heap.size v2 t.pairs
theorem add1 {w W w1 : World} {b : Nat} {vt vm : Value} {L : List Tm} {vs : List (Value × Value)} {t : Tm} {vn vp v1 v2 : Value} (h : Add0 w W b vt vm L vs t vn vp) (hT : Twin W.drew w1 t v1 v2) : Add1 w W w1 b vt vm L vs t vn vp v1 v2 :=
  ⟨h.below (below_of_drew3 hT.bl), row_base hT.n h.bl.size, row_base hT.p h.bl.size⟩
theorem Sto.apart {w : World} {b : Nat} {vt vm : Value} {L : List Tm} {vs : List (Value × Value)} (h : Sto w b vt vm L vs) : vt.ownBlock ≠ some b := fun e => by
  obtain ⟨c, hc⟩ := row_cells h.row e
  exact cells_ne hc h.cell (by decide) rfl
/-- Behind the append: the row is longer. -/
structure Add2 (w w1 w2 : World) (b : Nat) (vt vm : Value) (L : List Tm) (vs : List (Value × Value)) (t : Tm) (vn vp v1 v2 vt' : Value) : Prop where
  row : w2.ownsRow 0 35 6 vt' (L.length + 1) (rowC L vs ++ tmC t v1 v2)
  gr : (w1.alloc (.cells #[.int .i64 t.kind, .int .i64 t.label, .int .i64 t.a, .int .i64 t.b, v1, v2] 35)).grownBy w2 vt.ownBlock
  at_ : vt'.ownBlock = vt.ownBlock ∨ vt'.ownBlock = some (w1.heap.size + 1)
theorem Add2.other {w w1 w2 : World} {b : Nat} {vt vm : Value} {L : List Tm} {vs : List (Value × Value)} {t : Tm} {vn vp v1 v2 vt' : Value} (h : Add2 w w1 w2 b vt vm L vs t vn vp v1 v2 vt') {i : Nat} (hi : i < w1.heap.size) (hn : vt.ownBlock ≠ some i) : w2.heap[i]? = w1.heap[i]? := by
  rw [h.gr.block i (by simp; omega) (fun e => hn e.symm), Below.heap_alloc _ _ _ hi]
theorem Add2.cell {w W w1 w2 : World} {b : Nat} {vt vm : Value} {L : List Tm} {vs : List (Value × Value)} {t : Tm} {vn vp v1 v2 vt' : Value} (h1 : Add1 w W w1 b vt vm L vs t vn vp v1 v2) (h : Add2 w w1 w2 b vt vm L vs t vn vp v1 v2 vt') : w2.heap[b]? = some (.cells #[vt, vm] 71 (0, 0)) := by
  rw [h.other (t_lt h1.z.s.cell) h1.z.s.apart]
  exact h1.z.s.cell
/-- A store but for its map. -/
structure StoR (w : World) (b : Nat) (vt vm : Value) (L : List Tm) (vs : List (Value × Value)) : Prop where
  cell : w.heap[b]? = some (.cells #[vt, vm] 71 (0, 0))
  row : w.ownsRow 0 35 6 vt L.length (rowC L vs)
  len : vs.length = L.length
  lists : ∀ (i : Nat) (t : Tm) (v : Value × Value), L[i]? = some t → vs[i]? = some v → OwnI w 0 v.1 t.names ∧ OwnP w 0 v.2 t.pairs
  wf : ∀ t ∈ L, t.Wf
  big : L.length ≤ 100000
def FootR (b : Nat) (vt : Value) (vs : List (Value × Value)) (i : Nat) : Prop := i = b ∨ vt.ownBlock = some i ∨ ∃ v ∈ vs, v.1.ownBlock = some i ∨ v.2.ownBlock = some i
theorem StoR.cells {w : World} {b : Nat} {vt vm : Value} {L : List Tm} {vs : List (Value × Value)} (h : StoR w b vt vm L vs) {i : Nat} (hi : FootR b vt vs i) : ∃ c s, w.heap[i]? = some (.cells c s (0, 0)) := by
  rcases hi with rfl | hi | ⟨v, hv, hi⟩
  · exact ⟨_, _, h.cell⟩
  · obtain ⟨c, hc⟩ := row_cells h.row hi
    exact ⟨_, _, hc⟩
  · obtain ⟨k, hk, rfl⟩ := List.getElem_of_mem hv
    have hl : k < L.length := by rw [← h.len]; exact hk
    obtain ⟨l1, l2⟩ := h.lists k _ _ (List.getElem?_eq_getElem hl) (List.getElem?_eq_getElem hk)
    rcases hi with hi | hi
    · obtain ⟨c, hc⟩ := row_cells l1 hi
      exact ⟨_, _, hc⟩
    · obtain ⟨c, hc⟩ := row_cells l2 hi
      exact ⟨_, _, hc⟩
theorem StoR.at {w w' : World} {b : Nat} {vt vm : Value} {L : List Tm} {vs : List (Value × Value)} (h : StoR w b vt vm L vs) (hb : ∀ i, FootR b vt vs i → w'.heap[i]? = w.heap[i]?) : StoR w' b vt vm L vs :=
  ⟨by rw [hb b (.inl rfl)]; exact h.cell, trow_at h.row fun i hi => hb i (.inr (.inl hi)), h.len,
    fun i t v h1 h2 => ⟨trow_at (h.lists i t v h1 h2).1 fun k hk => hb k (.inr (.inr ⟨v, List.mem_of_getElem? h2, .inl hk⟩)), trow_at (h.lists i t v h1 h2).2 fun k hk => hb k (.inr (.inr ⟨v, List.mem_of_getElem? h2, .inr hk⟩))⟩, h.wf, h.big⟩
theorem StoR.below {w w' : World} {b : Nat} {vt vm : Value} {L : List Tm} {vs : List (Value × Value)} (h : StoR w b vt vm L vs) (hb : Below w.heap.size w w') : StoR w' b vt vm L vs := h.at fun i hi => by
  obtain ⟨c, s, hc⟩ := h.cells hi
  exact hb.block i (t_lt hc)
/-- Behind the store of the longer row. -/
theorem add3 {w W w1 w2 : World} {b : Nat} {vt vm : Value} {L : List Tm} {vs : List (Value × Value)} {t : Tm} {vn vp v1 v2 vt' : Value} (h1 : Add1 w W w1 b vt vm L vs t vn vp v1 v2) (h : Add2 w w1 w2 b vt vm L vs t vn vp v1 v2 vt') (hwf : t.Wf) (hlen : L.length < 100000) : StoR (w2.setCell ⟨b, 0, none⟩ vt') b vt' vm (L ++ [t]) (vs ++ [(v1, v2)]) := by
  have hc := h.cell h1
  have hR : w2.ownsRow 0 35 6 vt' (L ++ [t]).length (rowC (L ++ [t]) (vs ++ [(v1, v2)])) := by
    rw [rowC_snoc L vs h1.z.s.len, List.length_append]
    exact h.row
  have lst : ∀ {i : Nat} {c : Array Value} {s : TypeId}, w1.heap[i]? = some (.cells c s (0, 0)) → s ≠ 35 → s ≠ 71 → (w2.setCell ⟨b, 0, none⟩ vt').heap[i]? = w1.heap[i]? := fun hi n1 n2 => by
    rw [set_other _ _ _ _ _ (cells_ne hi h1.z.s.cell n2), h.other (t_lt hi) fun e => ?_]
    obtain ⟨c', hc'⟩ := row_cells h1.z.s.row e
    exact cells_ne hi hc' n1 rfl
  have lstI : ∀ {B : Nat} {v : Value} {zs : List Int}, OwnI w1 B v zs → OwnI (w2.setCell ⟨b, 0, none⟩ vt') 0 v zs := fun ho => row_base (trow_at ho fun k hk => by
    obtain ⟨c, hc⟩ := row_cells ho hk
    exact lst hc (by decide) (by decide)) (Nat.zero_le _)
  have lstP : ∀ {B : Nat} {v : Value} {ps : List (Int × Int)}, OwnP w1 B v ps → OwnP (w2.setCell ⟨b, 0, none⟩ vt') 0 v ps := fun ho => row_base (trow_at ho fun k hk => by
    obtain ⟨c, hc⟩ := row_cells ho hk
    exact lst hc (by decide) (by decide)) (Nat.zero_le _)
  refine ⟨?_, trow_at hR fun i hi => ?_, by simp [h1.z.s.len], fun i s v hs hv => ?_, fun s hs => ?_, by simp; omega⟩
  · rw [heap_setCell_same _ b 0 _ _ _ hc]; rfl
  · obtain ⟨c', hc'⟩ := row_cells hR hi
    exact set_other _ _ _ _ _ (cells_ne hc' hc (by decide))
  · rcases Nat.lt_or_ge i L.length with hi | hi
    · rw [List.getElem?_append_left hi] at hs
      rw [List.getElem?_append_left (by rw [h1.z.s.len]; exact hi)] at hv
      obtain ⟨l1, l2⟩ := h1.z.s.lists i s v hs hv
      exact ⟨lstI l1, lstP l2⟩
    · rw [List.getElem?_append_right hi] at hs
      rw [List.getElem?_append_right (by rw [h1.z.s.len]; exact hi), h1.z.s.len] at hv
      have hi0 : i - L.length = 0 := by
        have := (List.getElem?_eq_some_iff.1 hs).1
        simp at this; omega
      rw [hi0] at hs hv
      simp at hs hv
      subst hs; subst hv
      exact ⟨lstI h1.n, lstP h1.p⟩
  · rcases List.mem_append.1 hs with hs | hs
    · exact h1.z.s.wf s hs
    · rw [List.mem_singleton.1 hs]; exact hwf
theorem add_kept {w W w1 w2 : World} {b : Nat} {vt vm : Value} {L : List Tm} {vs : List (Value × Value)} {t : Tm} {vn vp v1 v2 vt' : Value} (h1 : Add1 w W w1 b vt vm L vs t vn vp v1 v2) (h : Add2 w w1 w2 b vt vm L vs t vn vp v1 v2 vt') : Kept (Foot3 b vt vm vs) w (w2.setCell ⟨b, 0, none⟩ vt') := by
  have k1 : Kept (Foot3 b vt vm vs) w w1 := h1.z.bl
  have k2 : Kept (Foot3 b vt vm vs) w1 (w1.alloc (.cells #[.int .i64 t.kind, .int .i64 t.label, .int .i64 t.a, .int .i64 t.b, v1, v2] 35)) := .of_below ((Below.refl _ _).alloc (Nat.le_refl _) _)
  have k3 : Kept (Foot3 b vt vm vs) _ w2 := (Kept.of_grown h.gr).mono fun k _ e => .inr (.inl e)
  have k4 : Kept (Foot3 b vt vm vs) w2 (w2.setCell ⟨b, 0, none⟩ vt') := (Kept.setCell w2 b 0 vt').mono fun k _ e => .inl e
  exact ((k1.trans k2).trans k3).trans k4
theorem add_box {w W w1 w2 : World} {b : Nat} {vt vm : Value} {L : List Tm} {vs : List (Value × Value)} {t : Tm} {vn vp v1 v2 vt' : Value} (h1 : Add1 w W w1 b vt vm L vs t vn vp v1 v2) (h : Add2 w w1 w2 b vt vm L vs t vn vp v1 v2 vt') : (w2.setCell ⟨b, 0, none⟩ vt').heap[w.heap.size]? = some (.cells #[.int .i64 t.kind, .int .i64 t.label, .int .i64 t.a, .int .i64 t.b, vn, vp] 35 (0, 0)) := by
  have hb := h1.z.ob
  rw [set_other _ _ _ _ _ (by omega), h.other (t_lt h1.z.box) fun e => by have := h1.z.ov _ e; omega]
  exact h1.z.box
theorem add_map {w W w1 w2 : World} {b : Nat} {vt vm : Value} {L : List Tm} {vs : List (Value × Value)} {t : Tm} {vn vp v1 v2 vt' : Value} (h1 : Add1 w W w1 b vt vm L vs t vn vp v1 v2) (h : Add2 w w1 w2 b vt vm L vs t vn vp v1 v2 vt') {bm : Nat} {D : DataW Unit} (ho : w1.ownsMap (H := Unit) Tryz.prog 115 (plainElem Tryz.prog 3) bm L.length D) : (w2.setCell ⟨b, 0, none⟩ vt').ownsMap (H := Unit) Tryz.prog 115 (plainElem Tryz.prog 3) bm L.length D := by
  refine map_at ho ?_
  rw [set_other _ _ _ _ _ (fun e => map_ne h1.z.s.cell ho e.symm), h.other ho.lt fun e => ?_]
  obtain ⟨c, hc⟩ := row_cells h1.z.s.row e
  exact map_ne hc ho rfl
/-- Behind all. -/
theorem add_fin {w W w1 w2 : World} {b : Nat} {vt vm : Value} {L : List Tm} {vs : List (Value × Value)} {t : Tm} {vn vp v1 v2 vt' : Value} (h1 : Add1 w W w1 b vt vm L vs t vn vp v1 v2) (h : Add2 w w1 w2 b vt vm L vs t vn vp v1 v2 vt') (hwf : t.Wf) (hnew : t ∉ L) (hlen : L.length < 100000) {bm : Nat} {D : DataW Unit} (hvm : vm = .map (some bm)) (hm : MapOf3 D L) {w3 w4 : World} (ho : w3.ownsMap (H := Unit) Tryz.prog 115 (plainElem Tryz.prog 3) bm L.length D) (hb3 : Below (w2.setCell ⟨b, 0, none⟩ vt').heap.size (w2.setCell ⟨b, 0, none⟩ vt') w3)
    (ho4 : w4.ownsMap (H := Unit) Tryz.prog 115 (plainElem Tryz.prog 3) bm (L.length + 1) (D.put (tkey t) (.lit (.int .i64 L.length)))) (hg4 : w3.grownBy w4 (some bm)) :
    Sto w4 b vt' vm (L ++ [t]) (vs ++ [(v1, v2)]) ∧ Kept (Foot3 b vt vm vs) w w4 ∧ (∀ i, Foot3 b vt' vm (vs ++ [(v1, v2)]) i → Foot3 b vt vm vs i ∨ w.heap.size ≤ i) := by
  subst hvm
  have r3 := (add3 h1 h hwf hlen).below hb3
  have r4 : StoR w4 b vt' (.map (some bm)) (L ++ [t]) (vs ++ [(v1, v2)]) := r3.at fun i hi => by
    obtain ⟨c, s, hc⟩ := r3.cells hi
    exact hg4.block i (t_lt hc) fun e => map_ne hc ho (Option.some.inj e)
  refine ⟨⟨r4.cell, r4.row, .inr ⟨bm, _, rfl, ?_, hm.snoc ho.isMap h1.z.s.wf t hwf hnew⟩, r4.len, r4.lists, r4.wf, r4.big⟩, ?_, fun i hi => ?_⟩
  · simpa using ho4
  · exact ((add_kept h1 h).trans (Kept.of_below hb3)).trans ((Kept.of_grown hg4).mono fun k _ e => .inr (.inr (.inl (by rw [e]))))
  · rcases hi with hi | hi | hi | ⟨v, hv, hi⟩
    · exact .inl (.inl hi)
    · rcases h.at_ with e | e
      · exact .inl (.inr (.inl (e ▸ hi)))
      · rw [e] at hi
        have := h1.z.bl.size
        exact .inr (by have := Option.some.inj hi; omega)
    · exact .inl (.inr (.inr (.inl hi)))
    · rcases List.mem_append.1 hv with hv | hv
      · exact .inl (.inr (.inr (.inr ⟨v, hv, hi⟩)))
      · rw [List.mem_singleton.1 hv] at hi
        rcases hi with hi | hi
        · exact .inr (h1.n.lt i hi).1
        · exact .inr (h1.p.lt i hi).1
theorem six_one (a b c d : Int) (ao1 ao2 : Option Addr) (n1 c1 n2 c2 : Nat) : ∀ u ∈ [Value.int .i64 a, .int .i64 b, .int .i64 c, .int .i64 d, .slice ao1 n1 c1, .slice ao2 n2 c2], u.oneCell' = true := by simp [Value.oneCell']
set_option maxRecDepth 100000 in
set_option maxHeartbeats 1600000 in
theorem add_some (b bm : Nat) (vt : Value) (D : DataW Unit) (L : List Tm) (vs : List (Value × Value)) (t : Tm) (vn vp : Value) (w : World) (hS : Sto w b vt (.map (some bm)) L vs) (ho : w.ownsMap (H := Unit) Tryz.prog 115 (plainElem Tryz.prog 3) bm L.length D) (hm : MapOf3 D L)
    (hwf : t.Wf) (hnew : t ∉ L) (hh : Hand w (Foot3 b vt (.map (some bm)) vs) t vn vp) (hlen : L.length < 100000) :
    Calls Tryz.prog 22 #[.pointer (some ⟨b, 0, none⟩), tmV t vn vp] w fun r w' => r = .returned (.int .i64 L.length) ∧ ∃ vt' v, Sto w' b vt' (.map (some bm)) (L ++ [t]) (vs ++ [v]) ∧ Kept (Foot3 b vt (.map (some bm)) vs) w w' ∧ (∀ i, Foot3 b vt' (.map (some bm)) (vs ++ [v]) i → Foot3 b vt (.map (some bm)) vs i ∨ w.heap.size ≤ i) := by
  obtain ⟨ao, cap, rfl⟩ := row_shape hS.row
  obtain ⟨an, cn, rfl, _⟩ := id hh.n
  obtain ⟨ap, cp, rfl, _⟩ := id hh.p
  obtain ⟨hc0, hc1⟩ := t_cells hS.cell
  obtain ⟨i0, hi0, hz0, hz1, hz2⟩ := info_parts Tryz.infoT
  have hlt := t_lt hS.cell
  have hq := Tryz.eqMapS bm
  have hml : L.length + 1 ≤ maxLen := by unfold maxLen; omega
  have hby : (L.length + 1) * 80 ≤ 140737488355328 := by omega
  have ln : t.names.length * 8 ≤ 140737488355328 := by have := hwf.nl; omega
  have lp : t.pairs.length * 16 ≤ 140737488355328 := by have := hwf.pl; omega
  have HT : Hid _ := And.intro hm (And.intro hwf hnew)
  have HH : Hid _ := hh
  have lk : L.length < maxLen := by unfold maxLen; omega
  have HA : Hid _ := And.intro (add0 hS hh) (map_at ho (Below.heap_alloc w (.cells #[.int .i64 t.kind, .int .i64 t.label, .int .i64 t.a, .int .i64 t.b, .slice an t.names.length cn, .slice ap t.pairs.length cp] 35) bm ho.lt))
  clear hS ho hm hwf hnew hh
  unfold tmV
  go_enter Tryz.func22, Tryz.ntmps22
  go_wp2_with fail
  generalize (w.alloc (.cells #[.int .i64 t.kind, .int .i64 t.label, .int .i64 t.a, .int .i64 t.b, .slice an t.names.length cn, .slice ap t.pairs.length cp] 35)) = W at HA
  clear hc0 hc1
  obtain ⟨hc0, hc1⟩ := t_cells HA.out.1.s.cell
  obtain ⟨x0, x1, x2, x3, x4, x5, xf⟩ := six6 HA.out.1.box
  have HTw : Hid (∀ W', Below W.heap.size W W' → Calls Tryz.prog 78 #[.agg #[.int .i64 t.kind, .int .i64 t.label, .int .i64 t.a, .int .i64 t.b, .slice an t.names.length cn, .slice ap t.pairs.length cp]] W' fun r w' => ∃ v1 v2, r = .returned (tmV t v1 v2) ∧ Twin W' w' t v1 v2) := fun W' hb => twin_any t _ _ W' (HA.out.1.h.below hb).n (HA.out.1.h.below hb).p ln lp
  go_region_law
    ((first
      | (go_simp; go_at_call 78; refine (HTw.out _ (by repeat (first | exact Below.refl _ _ | assumption | refine Below.drew ?_ | refine Below.setCell ?_ (by simp) _ | refine Below.alloc ?_ (by simp) _))).mono ?_; rintro r1 w1 ⟨v1, v2, rfl, hTw⟩; unfold tmV; obtain ⟨ao1, cap1, rfl⟩ := row_shape hTw.n; obtain ⟨ao2, cap2, rfl⟩ := row_shape hTw.p; have hA1 := add1 HA.out.1 hTw; have hM1 := map_at HA.out.2 ((below_of_drew3 hTw.bl).block _ HA.out.2.lt); clear hc0 hc1; obtain ⟨hc0, hc1⟩ := t_cells hA1.z.s.cell; have hlt1 := t_lt hA1.z.s.cell; have H1 : Hid _ := And.intro hA1 hM1; clear hA1 hM1 hTw HTw)
      | (refine step_append_lies _ (by rfl) _ _ _ (by rfl) 0 35 i0 _ 6 80 Tryz.underlying22 hi0 hz0 hz1 hz2 rfl (Nat.succ_pos 5) (.slice ao L.length cap) L.length (rowC L vs) (by rfl) (H1.out.1.z.s.row.alloc _)
          ⟨w1.heap.size, 0, none⟩ 1 1 [.int .i64 t.kind, .int .i64 t.label, .int .i64 t.a, .int .i64 t.b, .slice ao1 t.names.length cap1, .slice ao2 t.pairs.length cap2] (by rfl) (by rfl) (World.news_of_block (cs := #[.int .i64 t.kind, .int .i64 t.label, .int .i64 t.a, .int .i64 t.b, .slice ao1 t.names.length cap1, .slice ao2 t.pairs.length cap2]) (t := 35) (fr := (0, 0)) (heap_alloc_new w1 _)) (six_one _ _ _ _ _ _ _ _ _ _)
          Nat.one_pos hml hby (Nat.zero_le _) (w1.heap.size + 1) (by simp) ?_; intro gg cap' w2 hown2 hgrow hat hlt2; have hA2 : Add2 w w1 w2 b (.slice ao L.length cap) (.map (some bm)) L vs t (.slice an t.names.length cn) (.slice ap t.pairs.length cp) (.slice ao1 t.names.length cap1) (.slice ao2 t.pairs.length cap2) (.slice (some ⟨gg, 0, none⟩) (L.length + 1) cap') := ⟨hown2, hgrow, hat.imp (fun h => h.symm) (fun h => by simp [Value.ownBlock, h])⟩; clear hc0 hc1; have hB2 := hA2.cell H1.out.1; obtain ⟨hc0, hc1⟩ := t_cells hB2; have hf := blk_free hB2; have H2 : Hid _ := hA2; clear hA2 hB2 hown2 hgrow hat hlt2)))
  all_goals
    go_wp2_with fail
    obtain ⟨W2, hW2⟩ : ∃ W2, W2 = w2.setCell ⟨b, 0, none⟩ (.slice (some ⟨gg, 0, none⟩) (L.length + 1) cap') := ⟨_, rfl⟩
    rw [← hW2]
    have hR3 := add3 H1.out.1 H2.out HT.out.2.1 hlen
    have hX3 := add_box H1.out.1 H2.out
    have hH3 := HH.out.kept (add_kept H1.out.1 H2.out)
    have hM3 := add_map H1.out.1 H2.out H1.out.2
    rw [← hW2] at hR3 hX3 hH3 hM3
    have HW2 : Hid (w2.setCell ⟨b, 0, none⟩ (.slice (some ⟨gg, 0, none⟩) (L.length + 1) cap') = W2) := hW2.symm
    clear hW2 hc0 hc1 x0 x1 x2 x3 x4 x5 xf hf hlt1
    have HR : Hid _ := And.intro hR3 hM3
    have HK : Hid (∀ W', Below W2.heap.size W2 W' → Calls Tryz.prog 82 #[.agg #[.int .i64 t.kind, .int .i64 t.label, .int .i64 t.a, .int .i64 t.b, .slice an t.names.length cn, .slice ap t.pairs.length cp]] W' fun r w' => r = .returned (keyV t) ∧ Below W'.heap.size W' w') := fun W' hb => keyOf_any t _ _ W' (hH3.below hb).n (hH3.below hb).p (by have := HT.out.2.1.nl; omega) (by have := HT.out.2.1.pl; omega) HT.out.2.1.nb HT.out.2.1.pb
    obtain ⟨hc0, hc1⟩ := t_cells hR3.cell
    obtain ⟨x0, x1, x2, x3, x4, x5, xf⟩ := six6 hX3
    clear hR3 hX3 hH3 hM3
    go_region_law
      ((first
        | (go_simp; go_at_call 82; refine (HK.out _ (by repeat (first | exact Below.refl _ _ | assumption | refine Below.drew ?_ | refine Below.setCell ?_ (by simp) _ | refine Below.alloc ?_ (by simp) _))).mono ?_; rintro r3 w3 ⟨rfl, hb3'⟩; have hb3 := below_of_drew3 hb3'; have hM4 := map_at HR.out.2 (hb3.block _ HR.out.2.lt); obtain ⟨w4, hrun, ho4, hg4⟩ := hM4.update Tryz.lawK Tryz.underlying69 lk (keyOf_keyV t HT.out.2.1.fits) (plainElem_int (a := (L.length : Int)) Tryz.underlying3 (WalkArith.wf_i64 (by omega))); clear hc0 hc1; obtain ⟨hc0, hc1⟩ := t_cells (HR.out.1.below hb3).cell; have H4 : Hid _ := And.intro hM4 (And.intro hb3 (And.intro ho4 hg4)); clear hM4 hb3 hb3' ho4 hg4 HK)))
    all_goals
      go_wp2_with fail
      go_ret
      exact ⟨rfl, _, (_, _), add_fin H1.out.1 H2.out HT.out.2.1 HT.out.2.2 hlen rfl HT.out.1 H4.out.1 (by rw [HW2.out]; exact H4.out.2.1) H4.out.2.2.1 H4.out.2.2.2⟩
end Go.Proofs.YthnenpncajpibaaGreatDoor
/- Contract of the store's add where there is no map yet. -/
namespace Go.Proofs.YthnenpncajpibaaGreatDoor
open Go.RowKit Go.Maps
attribute [local go_sem ↓] Go.wp_at_zero Go.wp_at_succ
/-- The world behind the box and the making of the map. -/
def madeW3 (w : World) (b : Nat) (o : Obj) : World := ((w.setCell ⟨b, 1, none⟩ (.map (some (w.heap.size + 1)))).alloc o).alloc (.map #[] 0)
theorem made_size (w : World) (b : Nat) (o : Obj) : (madeW3 w b o).heap.size = w.heap.size + 2 := by simp [madeW3, World.setCell]
theorem made_old (w : World) (b : Nat) (o : Obj) (i : Nat) (hi : i < w.heap.size) (hb : i ≠ b) : (madeW3 w b o).heap[i]? = w.heap[i]? := by
  unfold madeW3
  rw [Below.heap_alloc _ _ i (by simp [World.setCell]; omega), Below.heap_alloc _ _ i (by simp [World.setCell]; omega), set_other _ _ _ _ _ hb]
theorem made_kept (w : World) (b : Nat) (o : Obj) (F : Nat → Prop) (hF : F b) : Kept F w (madeW3 w b o) :=
  ⟨rfl, rfl, rfl, by rw [made_size]; omega, fun i hi hf => made_old w b o i hi fun e => hf (e ▸ hF)⟩
theorem made_b (w : World) (b : Nat) (o : Obj) (vt : Value) (h : w.heap[b]? = some (.cells #[vt, .map none] 71 (0, 0))) : (madeW3 w b o).heap[b]? = some (.cells #[vt, .map (some (w.heap.size + 1))] 71 (0, 0)) := by
  have hlt := t_lt h
  unfold madeW3
  rw [Below.heap_alloc _ _ b (by simp [World.setCell]; omega), Below.heap_alloc _ _ b (by simp [World.setCell]; omega), heap_setCell_same _ b 1 _ _ _ h]
  rfl
theorem made_map (w : World) (b : Nat) (o : Obj) : (madeW3 w b o).ownsMap (H := Unit) Tryz.prog 115 (plainElem Tryz.prog 3) (w.heap.size + 1) 0 (.map []) := by
  have h := World.ownsMap_made (H := Unit) ((w.setCell ⟨b, 1, none⟩ (.map (some (w.heap.size + 1)))).alloc o) Tryz.prog 115 (plainElem Tryz.prog 3)
  have e : ((w.setCell ⟨b, 1, none⟩ (.map (some (w.heap.size + 1)))).alloc o).heap.size = w.heap.size + 1 := by simp [World.setCell]
  rw [e] at h
  exact h
theorem made_box (w : World) (b : Nat) (o : Obj) : (madeW3 w b o).heap[w.heap.size]? = some o := by
  have h := (MapKept.heap_alloc (w.setCell ⟨b, 1, none⟩ (.map (some (w.heap.size + 1)))) o).1
  have e : (w.setCell ⟨b, 1, none⟩ (.map (some (w.heap.size + 1)))).heap.size = w.heap.size := by simp [World.setCell]
  rw [e] at h
  unfold madeW3
  rw [Below.heap_alloc _ _ _ (by simp [World.setCell])]
  exact h
theorem made_far {w : World} {v : Value} {zs : List Int} (h : HasI w v zs) (hz : zs ≠ []) {i : Nat} (hi : v.ownBlock = some i) : i < w.heap.size := by
  obtain ⟨ao, cap, rfl, h2⟩ := h
  cases zs with
  | nil => exact absurd rfl hz
  | cons z r =>
    obtain ⟨a, rfl, c⟩ := h2 0 z rfl
    have := block_lt3 c
    simp only [Value.ownBlock, Option.some.injEq] at hi
    omega
theorem made_farP {w : World} {v : Value} {zs : List (Int × Int)} (h : HasP w v zs) (hz : zs ≠ []) {i : Nat} (hi : v.ownBlock = some i) : i < w.heap.size := by
  obtain ⟨ao, cap, rfl, h2⟩ := h
  cases zs with
  | nil => exact absurd rfl hz
  | cons z r =>
    obtain ⟨a, rfl, c, _⟩ := h2 0 z rfl
    have := block_lt3 c
    simp only [Value.ownBlock, Option.some.injEq] at hi
    omega
theorem add0n {w : World} {b : Nat} {vt : Value} {t : Tm} {vn vp : Value} (hS : Sto w b vt (.map none) [] []) (hH : Hand w (Foot3 b vt (.map none) []) t vn vp) : Add0 w (madeW3 w b (.cells #[.int .i64 t.kind, .int .i64 t.label, .int .i64 t.a, .int .i64 t.b, vn, vp] 35)) b vt (.map (some (w.heap.size + 1))) [] [] t vn vp := by
  have hlt := t_lt hS.cell
  have hk := made_kept w b (.cells #[.int .i64 t.kind, .int .i64 t.label, .int .i64 t.a, .int .i64 t.b, vn, vp] 35)
  have hh := hH.kept (hk (Foot3 b vt (.map none) []) (.inl rfl))
  refine ⟨⟨made_b _ _ _ _ hS.cell, trow_at hS.row fun i hi => made_old _ _ _ _ (hS.row.lt i hi).2 fun e => hS.apart (e ▸ hi), .inr ⟨_, _, rfl, made_map _ _ _, .nil⟩, rfl, fun i t v h => by simp at h, fun t h => by simp at h, by simp⟩,
    ⟨hh.n, hh.p, fun hz i hi hf => ?_, fun hz i hi hf => ?_⟩, made_box _ _ _, hlt, fun i hi => (hS.row.lt i hi).2, hk _ (.inl rfl)⟩
  · rcases hf with hf | hf | hf | ⟨v, hv, _⟩
    · exact hh.fn hz i hi (.inl hf)
    · exact hh.fn hz i hi (.inr (.inl hf))
    · injection hf with hf
      injection hf with hf
      have := made_far hH.n hz hi
      omega
    · simp at hv
  · rcases hf with hf | hf | hf | ⟨v, hv, _⟩
    · exact hh.fp hz i hi (.inl hf)
    · exact hh.fp hz i hi (.inr (.inl hf))
    · injection hf with hf
      injection hf with hf
      have := made_farP hH.p hz hi
      omega
    · simp at hv
theorem foot_none {w w' : World} {b : Nat} {vt : Value} (h : Kept (Foot3 b vt (.map (some (w.heap.size + 1))) []) w w') : Kept (Foot3 b vt (.map none) []) w w' := h.mono fun k hk hf => by
  rcases hf with hf | hf | hf | ⟨v, hv, _⟩
  · exact .inl hf
  · exact .inr (.inl hf)
  · injection hf with hf
    injection hf with hf
    omega
  · simp at hv
theorem foot_none2 {N : Nat} {b : Nat} {vt : Value} {F : Nat → Prop} (h : ∀ i, F i → Foot3 b vt (.map (some (N + 1))) [] i ∨ N ≤ i) : ∀ i, F i → Foot3 b vt (.map none) [] i ∨ N ≤ i := fun i hi => by
  rcases h i hi with hf | hf
  · rcases hf with hf | hf | hf | ⟨v, hv, _⟩
    · exact .inl (.inl hf)
    · exact .inl (.inr (.inl hf))
    · injection hf with hf
      injection hf with hf
      exact .inr (by omega)
    · simp at hv
  · exact .inr hf
set_option maxRecDepth 100000 in
set_option maxHeartbeats 1600000 in
theorem add_none (b : Nat) (vt : Value) (t : Tm) (vn vp : Value) (w : World) (hS : Sto w b vt (.map none) [] [])
    (hwf : t.Wf) (hh : Hand w (Foot3 b vt (.map none) []) t vn vp) :
    Calls Tryz.prog 22 #[.pointer (some ⟨b, 0, none⟩), tmV t vn vp] w fun r w' => r = .returned (.int .i64 0) ∧ ∃ vt' vm' v, Sto w' b vt' vm' [t] [v] ∧ Kept (Foot3 b vt (.map none) []) w w' ∧ (∀ i, Foot3 b vt' vm' [v] i → Foot3 b vt (.map none) [] i ∨ w.heap.size ≤ i) := by
  obtain ⟨ao, cap, rfl⟩ := row_shape hS.row
  obtain ⟨an, cn, rfl, _⟩ := id hh.n
  obtain ⟨ap, cp, rfl, _⟩ := id hh.p
  obtain ⟨hc0, hc1⟩ := t_cells hS.cell
  have hlt := t_lt hS.cell
  have hf0 := blk_free hS.cell
  have hq := Tryz.eqMapN
  have hmm := @run_makeMap Tryz.prog
  obtain ⟨i0, hi0, hz0, hz1, hz2⟩ := info_parts Tryz.infoT
  have hml : 0 + 1 ≤ maxLen := by unfold maxLen; omega
  have hby : (0 + 1) * 80 ≤ 140737488355328 := by omega
  have hlen : ([] : List Tm).length < 100000 := by decide
  have ln : t.names.length * 8 ≤ 140737488355328 := by have := hwf.nl; omega
  have lp : t.pairs.length * 16 ≤ 140737488355328 := by have := hwf.pl; omega
  have HT : Hid (MapOf3 (.map []) [] ∧ t.Wf ∧ t ∉ ([] : List Tm)) := ⟨.nil, hwf, by simp⟩
  have HH : Hid _ := hh
  have lk : 0 < maxLen := by unfold maxLen; omega
  have HA : Hid _ := And.intro (add0n hS hh) (made_map w b (.cells #[.int .i64 t.kind, .int .i64 t.label, .int .i64 t.a, .int .i64 t.b, .slice an t.names.length cn, .slice ap t.pairs.length cp] 35))
  clear hS hwf hh
  unfold tmV
  go_enter Tryz.func22, Tryz.ntmps22
  go_wp2_with fail
  rw [show ((w.setCell ⟨b, 1, none⟩ (.map (some (w.heap.size + 1)))).alloc (.cells #[.int .i64 t.kind, .int .i64 t.label, .int .i64 t.a, .int .i64 t.b, .slice an t.names.length cn, .slice ap t.pairs.length cp] 35)).alloc (.map #[] 0) = madeW3 w b (.cells #[.int .i64 t.kind, .int .i64 t.label, .int .i64 t.a, .int .i64 t.b, .slice an t.names.length cn, .slice ap t.pairs.length cp] 35) from rfl]
  generalize madeW3 w b (.cells #[.int .i64 t.kind, .int .i64 t.label, .int .i64 t.a, .int .i64 t.b, .slice an t.names.length cn, .slice ap t.pairs.length cp] 35) = W at HA
  clear hf0
  clear hc0 hc1
  obtain ⟨hc0, hc1⟩ := t_cells HA.out.1.s.cell
  obtain ⟨x0, x1, x2, x3, x4, x5, xf⟩ := six6 HA.out.1.box
  have HTw : Hid (∀ W', Below W.heap.size W W' → Calls Tryz.prog 78 #[.agg #[.int .i64 t.kind, .int .i64 t.label, .int .i64 t.a, .int .i64 t.b, .slice an t.names.length cn, .slice ap t.pairs.length cp]] W' fun r w' => ∃ v1 v2, r = .returned (tmV t v1 v2) ∧ Twin W' w' t v1 v2) := fun W' hb => twin_any t _ _ W' (HA.out.1.h.below hb).n (HA.out.1.h.below hb).p ln lp
  go_region_law
    ((first
      | (go_simp; go_at_call 78; refine (HTw.out _ (by repeat (first | exact Below.refl _ _ | assumption | refine Below.drew ?_ | refine Below.setCell ?_ (by simp) _ | refine Below.alloc ?_ (by simp) _))).mono ?_; rintro r1 w1 ⟨v1, v2, rfl, hTw⟩; unfold tmV; obtain ⟨ao1, cap1, rfl⟩ := row_shape hTw.n; obtain ⟨ao2, cap2, rfl⟩ := row_shape hTw.p; have hA1 := add1 HA.out.1 hTw; have hM1 := map_at HA.out.2 ((below_of_drew3 hTw.bl).block _ HA.out.2.lt); clear hc0 hc1; obtain ⟨hc0, hc1⟩ := t_cells hA1.z.s.cell; have hlt1 := t_lt hA1.z.s.cell; have H1 : Hid _ := And.intro hA1 hM1; clear hA1 hM1 hTw HTw)
      | (refine step_append_lies _ (by rfl) _ _ _ (by rfl) 0 35 i0 _ 6 80 Tryz.underlying22 hi0 hz0 hz1 hz2 rfl (Nat.succ_pos 5) (.slice ao 0 cap) 0 (rowC [] []) (by rfl) (H1.out.1.z.s.row.alloc _)
          ⟨w1.heap.size, 0, none⟩ 1 1 [.int .i64 t.kind, .int .i64 t.label, .int .i64 t.a, .int .i64 t.b, .slice ao1 t.names.length cap1, .slice ao2 t.pairs.length cap2] (by rfl) (by rfl) (World.news_of_block (cs := #[.int .i64 t.kind, .int .i64 t.label, .int .i64 t.a, .int .i64 t.b, .slice ao1 t.names.length cap1, .slice ao2 t.pairs.length cap2]) (t := 35) (fr := (0, 0)) (heap_alloc_new w1 _)) (six_one _ _ _ _ _ _ _ _ _ _)
          Nat.one_pos hml hby (Nat.zero_le _) (w1.heap.size + 1) (by simp) ?_; intro gg cap' w2 hown2 hgrow hat hlt2; have hA2 : Add2 w w1 w2 b (.slice ao 0 cap) (.map (some (w.heap.size + 1))) [] [] t (.slice an t.names.length cn) (.slice ap t.pairs.length cp) (.slice ao1 t.names.length cap1) (.slice ao2 t.pairs.length cap2) (.slice (some ⟨gg, 0, none⟩) (0 + 1) cap') := ⟨hown2, hgrow, hat.imp (fun h => h.symm) (fun h => by simp [Value.ownBlock, h])⟩; clear hc0 hc1; have hB2 := hA2.cell H1.out.1; obtain ⟨hc0, hc1⟩ := t_cells hB2; have hf := blk_free hB2; have H2 : Hid _ := hA2; clear hA2 hB2 hown2 hgrow hat hlt2)))
  all_goals
    go_wp2_with fail
    obtain ⟨W2, hW2⟩ : ∃ W2, W2 = w2.setCell ⟨b, 0, none⟩ (.slice (some ⟨gg, 0, none⟩) (0 + 1) cap') := ⟨_, rfl⟩
    rw [← hW2]
    have hR3 := add3 H1.out.1 H2.out HT.out.2.1 hlen
    have hX3 := add_box H1.out.1 H2.out
    have hH3 := HH.out.kept (foot_none (add_kept H1.out.1 H2.out))
    have hM3 := add_map H1.out.1 H2.out H1.out.2
    rw [← hW2] at hR3 hX3 hH3 hM3
    have HW2 : Hid (w2.setCell ⟨b, 0, none⟩ (.slice (some ⟨gg, 0, none⟩) (0 + 1) cap') = W2) := hW2.symm
    clear hW2 hc0 hc1 x0 x1 x2 x3 x4 x5 xf hf hlt1
    have HR : Hid _ := And.intro hR3 hM3
    have HK : Hid (∀ W', Below W2.heap.size W2 W' → Calls Tryz.prog 82 #[.agg #[.int .i64 t.kind, .int .i64 t.label, .int .i64 t.a, .int .i64 t.b, .slice an t.names.length cn, .slice ap t.pairs.length cp]] W' fun r w' => r = .returned (keyV t) ∧ Below W'.heap.size W' w') := fun W' hb => keyOf_any t _ _ W' (hH3.below hb).n (hH3.below hb).p (by have := HT.out.2.1.nl; omega) (by have := HT.out.2.1.pl; omega) HT.out.2.1.nb HT.out.2.1.pb
    obtain ⟨hc0, hc1⟩ := t_cells hR3.cell
    obtain ⟨x0, x1, x2, x3, x4, x5, xf⟩ := six6 hX3
    clear hR3 hX3 hH3 hM3
    go_region_law
      ((first
        | (go_simp; go_at_call 82; refine (HK.out _ (by repeat (first | exact Below.refl _ _ | assumption | refine Below.drew ?_ | refine Below.setCell ?_ (by simp) _ | refine Below.alloc ?_ (by simp) _))).mono ?_; rintro r3 w3 ⟨rfl, hb3'⟩; have hb3 := below_of_drew3 hb3'; have hM4 := map_at HR.out.2 (hb3.block _ HR.out.2.lt); obtain ⟨w4, hrun, ho4, hg4⟩ := hM4.update Tryz.lawK Tryz.underlying69 lk (keyOf_keyV t HT.out.2.1.fits) (plainElem_int (a := (0 : Int)) Tryz.underlying3 (WalkArith.wf_i64 (by omega))); clear hc0 hc1; obtain ⟨hc0, hc1⟩ := t_cells (HR.out.1.below hb3).cell; have H4 : Hid _ := And.intro hM4 (And.intro hb3 (And.intro ho4 hg4)); clear hM4 hb3 hb3' ho4 hg4 HK)))
    all_goals
      go_wp2_with fail
      go_ret
      obtain ⟨r1, r2, r3⟩ := add_fin H1.out.1 H2.out HT.out.2.1 HT.out.2.2 hlen rfl HT.out.1 H4.out.1 (by rw [HW2.out]; exact H4.out.2.1) H4.out.2.2.1 H4.out.2.2.2
      exact ⟨rfl, _, _, (_, _), r1, foot_none r2, foot_none2 r3⟩
end Go.Proofs.YthnenpncajpibaaGreatDoor
/- Contracts of New, Put: what is there is told, what is new stands behind the others, what may not be put is refused. -/
namespace Go.Proofs.YthnenpncajpibaaGreatDoor
open Go.RowKit Go.Maps
attribute [local go_sem ↓] Go.wp_at_zero Go.wp_at_succ
/-- A store with these terms, its blocks being those of F. -/
def StoB (w : World) (b : Nat) (L : List Tm) (F : Nat → Prop) : Prop := ∃ vt vm vs, Sto w b vt vm L vs ∧ F = Foot3 b vt vm vs
theorem StoB.foot_lt {w : World} {b : Nat} {L : List Tm} {F : Nat → Prop} (h : StoB w b L F) {i : Nat} (hi : F i) : i < w.heap.size := by
  obtain ⟨vt, vm, vs, hS, rfl⟩ := h
  exact hS.foot_lt hi
theorem StoB.b {w : World} {b : Nat} {L : List Tm} {F : Nat → Prop} (h : StoB w b L F) : F b := by
  obtain ⟨vt, vm, vs, hS, rfl⟩ := h
  exact .inl rfl
theorem StoB.kept {w w' : World} {b : Nat} {L : List Tm} {F G : Nat → Prop} (h : StoB w b L F) (hk : Kept G w w') (hF : ∀ i, F i → ¬ G i) : StoB w' b L F := by
  obtain ⟨vt, vm, vs, hS, rfl⟩ := h
  exact ⟨vt, vm, vs, hS.kept hk hF, rfl⟩
theorem StoB.below {w w' : World} {b : Nat} {L : List Tm} {F : Nat → Prop} (h : StoB w b L F) (hb : Below w.heap.size w w') : StoB w' b L F := by
  obtain ⟨vt, vm, vs, hS, rfl⟩ := h
  exact ⟨vt, vm, vs, hS.below hb, rfl⟩
theorem StoB.big {w : World} {b : Nat} {L : List Tm} {F : Nat → Prop} (h : StoB w b L F) : L.length ≤ 100000 := by
  obtain ⟨vt, vm, vs, hS, rfl⟩ := h
  exact hS.big
theorem StoB.cell {w : World} {b : Nat} {L : List Tm} {F : Nat → Prop} (h : StoB w b L F) : ∃ ao cap, w.cell? ⟨b, 0, none⟩ = some (.slice ao L.length cap) := by
  obtain ⟨vt, vm, vs, hS, rfl⟩ := h
  obtain ⟨ao, cap, rfl⟩ := row_shape hS.row
  exact ⟨ao, cap, (t_cells hS.cell).1⟩
theorem StoB.nodup {w : World} {b : Nat} {L : List Tm} {F : Nat → Prop} (h : StoB w b L F) {i j : Nat} {t : Tm} (hi : L[i]? = some t) (hj : L[j]? = some t) : i = j := by
  obtain ⟨vt, vm, vs, hS, rfl⟩ := h
  rcases hS.map with ⟨_, rfl⟩ | ⟨bm, D, rfl, ho, hm⟩
  · simp at hi
  · exact hm.nodup hi hj
theorem StoB.wf {w : World} {b : Nat} {L : List Tm} {F : Nat → Prop} (h : StoB w b L F) : ∀ t ∈ L, t.Wf := by
  obtain ⟨vt, vm, vs, hS, rfl⟩ := h
  exact hS.wf
theorem add_any (b : Nat) (L : List Tm) (F : Nat → Prop) (t : Tm) (vn vp : Value) (w : World) (hS : StoB w b L F) (hwf : t.Wf) (hnew : t ∉ L) (hh : Hand w F t vn vp) (hlen : L.length < 100000) :
    Calls Tryz.prog 22 #[.pointer (some ⟨b, 0, none⟩), tmV t vn vp] w fun r w' => r = .returned (.int .i64 L.length) ∧ ∃ F', StoB w' b (L ++ [t]) F' ∧ Kept F w w' ∧ (∀ i, F' i → F i ∨ w.heap.size ≤ i) := by
  obtain ⟨vt, vm, vs, hS, rfl⟩ := hS
  rcases hS.map with ⟨rfl, rfl⟩ | ⟨bm, D, rfl, ho, hm⟩
  · have hvs : vs = [] := List.eq_nil_of_length_eq_zero hS.len
    subst hvs
    refine (add_none b vt t vn vp w hS hwf hh).mono ?_
    rintro r w' ⟨rfl, vt', vm', v, h1, h2, h3⟩
    exact ⟨rfl, _, ⟨_, _, _, h1, rfl⟩, h2, h3⟩
  · refine (add_some b bm vt D L vs t vn vp w hS ho hm hwf hnew hh hlen).mono ?_
    rintro r w' ⟨rfl, vt', v, h1, h2, h3⟩
    exact ⟨rfl, _, ⟨_, _, _, h1, rfl⟩, h2, h3⟩
set_option maxRecDepth 100000 in
/-- What the map answers. -/
theorem Sto.look_yes {w : World} {b : Nat} {vt vm : Value} {L : List Tm} {vs : List (Value × Value)} (h : Sto w b vt vm L vs) {i : Nat} {t : Tm} (hi : L[i]? = some t) : (Instr.lookup 69 vm (keyV t) true).run Tryz.prog w = .ok (.tuple #[.int .i64 i, .bool true]) w := by
  rcases h.map with ⟨_, rfl⟩ | ⟨bm, D, rfl, ho, hm⟩
  · simp at hi
  · obtain ⟨hy1, hy2⟩ := hm.yes i t hi
    obtain ⟨v, ps, hrun, hv⟩ := ho.look_ok Tryz.lawK Tryz.underlying69 (Tryz.zeroI3 w) (plainElem_int (a := 0) Tryz.underlying3 (by decide)) (keyOf_keyV t (h.wf t (List.mem_of_getElem? hi)).fits)
    obtain ⟨c, rfl, hc, _⟩ := plainElem_int_inv Tryz.underlying3 hv
    have hc1 := congrArg Prod.fst hc
    simp only [hy2] at hc1
    injection hc1 with hc1
    injection hc1 with _ hc1
    rw [hrun, hy1, ← hc1]
theorem Sto.look_no {w : World} {b : Nat} {vt vm : Value} {L : List Tm} {vs : List (Value × Value)} (h : Sto w b vt vm L vs) {t : Tm} (ht : t.Wf) (hi : t ∉ L) : ∃ c : Int, (Instr.lookup 69 vm (keyV t) true).run Tryz.prog w = .ok (.tuple #[.int .i64 c, .bool false]) w := by
  rcases h.map with ⟨rfl, rfl⟩ | ⟨bm, D, rfl, ho, hm⟩
  · exact ⟨0, Maps.look_nil (P := Tryz.prog) (w := w) true Tryz.lawK Tryz.underlying69 (Tryz.zeroI3 w) (keyOf_keyV t ht.fits)⟩
  · obtain ⟨v, ps, hrun, hv⟩ := ho.look_ok Tryz.lawK Tryz.underlying69 (Tryz.zeroI3 w) (plainElem_int (a := 0) Tryz.underlying3 (by decide)) (keyOf_keyV t ht.fits)
    obtain ⟨c, rfl, hc, _⟩ := plainElem_int_inv Tryz.underlying3 hv
    exact ⟨c, by rw [hrun, hm.no t ht hi]⟩
theorem new_any3 (w : World) : Calls Tryz.prog 6 #[] w fun r w' => r = .returned (.pointer (some ⟨w.heap.size, 0, none⟩)) ∧ (∃ F, StoB w' w.heap.size [⟨1, 0, 0, 0, [], []⟩] F ∧ ∀ i, F i → w.heap.size ≤ i) ∧ Below w.heap.size w w' := by
  have hS : Sto (w.alloc (.cells #[.slice none 0 0, .map none] 71)) w.heap.size (.slice none 0 0) (.map none) [] [] :=
    ⟨(MapKept.heap_alloc w _).1, World.ownsRow_nil _ _ _ _, .inl ⟨rfl, rfl⟩, rfl, fun i t v h => by simp at h, fun t h => by simp at h, by simp⟩
  have hw : (⟨1, 0, 0, 0, [], []⟩ : Tm).Wf := may_wf (n := 0) (by omega) (by decide)
  have hA := add_any w.heap.size [] _ ⟨1, 0, 0, 0, [], []⟩ (.slice none 0 0) (.slice none 0 0) _ ⟨_, _, _, hS, rfl⟩ hw (by simp) ⟨⟨none, 0, rfl, fun i z h => by simp at h⟩, ⟨none, 0, rfl, fun i z h => by simp at h⟩, fun h => absurd rfl h, fun h => absurd rfl h⟩ (by decide)
  have HA : Hid _ := hA
  have HS : Hid _ := hS
  clear hA hS hw
  go_enter Tryz.func6, Tryz.ntmps6
  go_wp2_with fail
  refine Calls.mono HA.out ?_
  rintro r w' ⟨rfl, F', h1, h2, h3⟩
  have hb : Below w.heap.size w w' := ((Below.refl _ w).alloc (Nat.le_refl _) _).trans (h2.below (by simp) fun k hk => by
    rcases hk with hk | hk | hk | ⟨v, hv, _⟩
    · omega
    · cases hk
    · cases hk
    · simp at hv)
  have hF : ∀ i, F' i → w.heap.size ≤ i := fun i hi => by
    rcases h3 i hi with hk | hk
    · rcases hk with hk | hk | hk | ⟨v, hv, _⟩
      · omega
      · cases hk
      · cases hk
      · simp at hv
    · simp at hk; omega
  have HF : Hid _ := And.intro h1 (And.intro hF hb)
  clear h1 h2 h3 hb hF
  go_wp2_with fail
  go_ret
  exact ⟨rfl, ⟨F', HF.out.1, HF.out.2.1⟩, HF.out.2.2⟩
set_option maxRecDepth 100000 in
set_option maxHeartbeats 1600000 in
/-- Put of what may not be put. -/
theorem put_bad (b : Nat) (L : List Tm) (F : Nat → Prop) (t : Tm) (vn vp : Value) (T : TypeId) (u : Value) (w : World) (hS : StoB w b L F) (hn : HasI w vn t.names) (hp : HasP w vp t.pairs) (ln : t.names.length ≤ maxLen) (lp : t.pairs.length ≤ maxLen) (hmay : t.may L.length = false) (hE : w.cell? ⟨0, 0, none⟩ = some (.iface T u)) :
    Calls Tryz.prog 20 #[.pointer (some ⟨b, 0, none⟩), tmV t vn vp] w fun r w' => (∃ g, r = .returned (.tuple #[.int .i64 0, tFaultV g]) ∧ TermFault w' g (.iface T u) ∧ w.heap.size ≤ g) ∧ Below w.heap.size w w' := by
  obtain ⟨ao, cap, hc⟩ := hS.cell
  obtain ⟨W, hW⟩ : ∃ W, W = w.alloc (.cells #[.int .i64 t.kind, .int .i64 t.label, .int .i64 t.a, .int .i64 t.b, vn, vp] 35) := ⟨_, rfl⟩
  have hb : Below w.heap.size w W := by rw [hW]; exact (Below.refl _ _).alloc (Nat.le_refl _) _
  have hM := mayPut_any b ao L.length cap t vn vp W (cell_up hc hb) (hn.below hb) (hp.below hb) ln lp
  rw [hmay] at hM
  unfold tmV at hM ⊢
  obtain ⟨an, cn, rfl, _⟩ := hn
  obtain ⟨ap, cp, rfl, _⟩ := hp
  have HM : Hid _ := And.intro hM (And.intro hb hW)
  clear hM hb hW
  go_enter Tryz.func20, Tryz.ntmps20
  go_wp2_with fail
  rw [← HM.out.2.2]
  refine HM.out.1.mono ?_
  rintro r w1 ⟨rfl, hb1⟩
  have hB1 : Below w.heap.size w w1 := HM.out.2.1.trans (hb1.mono HM.out.2.1.size)
  have hE1 := cell_up hE hB1
  have HB : Hid _ := hB1
  clear hb1 hB1 hE
  go_wp2_with (go_at_call 81; refine (tfault_any _ _ _).mono ?_; rintro r w2 ⟨rfl, hF, hb2⟩)
  go_ret2
  exact ⟨⟨_, rfl, hF, HB.out.size⟩, HB.out.trans (hb2.mono HB.out.size)⟩
end Go.Proofs.YthnenpncajpibaaGreatDoor
