/- What the steps of the document's Put leave. -/
import Derived.Test.YthnenpncajpibaaGreatDoorPart5
namespace Go.Proofs.YthnenpncajpibaaGreatDoor
open Go.RowKit Go.Maps
theorem hasI_copy {w : World} {ao : Option Addr} {n cap : Nat} {zs : List Int} (h : HasI w (.slice ao n cap) zs) : (ao = none → n = 0) ∧ ∀ ad, ao = some ad → ∀ j u, (iC zs)[j]? = some u → w.cell? (ad.add j) = some u :=
  ⟨fun e => by subst e; exact h.none.2, fun ad e => by subst e; exact h.news.2⟩
theorem hasP_copy {w : World} {ao : Option Addr} {n cap : Nat} {ps : List (Int × Int)} (h : HasP w (.slice ao n cap) ps) : (ao = none → n = 0) ∧ ∀ ad, ao = some ad → ∀ j u, (pC ps)[j]? = some u → w.cell? (ad.add j) = some u :=
  ⟨fun e => by subst e; exact h.none.2, fun ad e => by subst e; exact h.news.2⟩
theorem cell0_of {w : World} {b : Nat} {cs : Array Value} {ty : TypeId} {v : Value} {k : Nat} (h : w.heap[b]? = some (.cells cs ty (0, 0))) (h0 : cs[k]? = some v) : w.cell? ⟨b, k, none⟩ = some v := by simp [World.cell?, h, h0]
/-- The term in its box, its lists copied. -/
structure RBox (w w4 : World) (B : Nat) (t : Tm) (v1 v2 : Value) : Prop where
  box : w4.heap[B]? = some (.cells #[.int .i64 t.kind, .int .i64 t.label, .int .i64 t.a, .int .i64 t.b, v1, v2] 35 (0, 0))
  n : OwnI w4 w.heap.size v1 t.names
  p : OwnP w4 w.heap.size v2 t.pairs
  bl : Below w.heap.size w w4
theorem rbox_fin {w w2 w3 w5 : World} {B : Nat} {t : Tm} {vn vp v1 v2 : Value} (hB : w2.heap[B]? = some (.cells #[.int .i64 t.kind, .int .i64 t.label, .int .i64 t.a, .int .i64 t.b, vn, vp] 35 (0, 0))) (h2 : Below w.heap.size w w2) (hw : w.heap.size ≤ B)
    (g1 : Below w2.heap.size w2 w3) (o1 : OwnI w3 w2.heap.size v1 t.names) (g2 : Below (w3.setCell ⟨B, 4, none⟩ v1).heap.size (w3.setCell ⟨B, 4, none⟩ v1) w5) (o2 : OwnP w5 w2.heap.size v2 t.pairs) : RBox w (w5.setCell ⟨B, 5, none⟩ v2) B t v1 v2 := by
  have e1 : (w3.setCell ⟨B, 4, none⟩ v1).heap.size = w3.heap.size := by simp [World.setCell]
  have hlt := t_lt hB
  have hB3 : w3.heap[B]? = some (.cells #[.int .i64 t.kind, .int .i64 t.label, .int .i64 t.a, .int .i64 t.b, vn, vp] 35 (0, 0)) := (g1.block _ hlt).trans hB
  have hB5 : w5.heap[B]? = some (.cells #[.int .i64 t.kind, .int .i64 t.label, .int .i64 t.a, .int .i64 t.b, v1, vp] 35 (0, 0)) := by
    rw [g2.block _ (by have := g1.size; omega), heap_setCell_same _ _ 4 _ _ _ hB3]; rfl
  have s1 := g1.size
  refine ⟨by rw [heap_setCell_same _ _ 5 _ _ _ hB5]; rfl, row_base (trow_at o1 fun i hi => ?_) h2.size, row_base (trow_at o2 fun i hi => ?_) h2.size, ?_⟩
  · obtain ⟨g, g'⟩ := o1.lt i hi
    rw [set_other _ _ _ _ _ (by omega), g2.block i (by omega), set_other _ _ _ _ _ (by omega)]
  · obtain ⟨g, g'⟩ := o2.lt i hi
    rw [set_other _ _ _ _ _ (by omega)]
  · exact (((h2.trans (g1.mono h2.size)).setCell hw _).trans (g2.mono (by have := h2.size; omega))).setCell hw _
theorem set_size (w : World) (a : Addr) (v : Value) : (w.setCell a v).heap.size = w.heap.size := by simp [World.setCell]
theorem rbox_five {w2 w3 w5 : World} {B : Nat} {t : Tm} {vn vp v1 : Value} (hB : w2.heap[B]? = some (.cells #[.int .i64 t.kind, .int .i64 t.label, .int .i64 t.a, .int .i64 t.b, vn, vp] 35 (0, 0)))
    (g1 : Below w2.heap.size w2 w3) (g2 : Below (w3.setCell ⟨B, 4, none⟩ v1).heap.size (w3.setCell ⟨B, 4, none⟩ v1) w5) : w5.heap[B]? = some (.cells #[.int .i64 t.kind, .int .i64 t.label, .int .i64 t.a, .int .i64 t.b, v1, vp] 35 (0, 0)) := by
  have hlt := t_lt hB
  have hB3 : w3.heap[B]? = some (.cells #[.int .i64 t.kind, .int .i64 t.label, .int .i64 t.a, .int .i64 t.b, vn, vp] 35 (0, 0)) := (g1.block _ hlt).trans hB
  rw [g2.block _ (by rw [set_size]; have := g1.size; omega), heap_setCell_same _ _ 4 _ _ _ hB3]; rfl
theorem RBox.below {w w4 w5 : World} {B : Nat} {t : Tm} {v1 v2 : Value} (h : RBox w w4 B t v1 v2) (hb : Below w4.heap.size w4 w5) : RBox w w5 B t v1 v2 :=
  ⟨(hb.block _ (t_lt h.box)).trans h.box, trow_at h.n fun i hi => hb.block i (h.n.lt i hi).2, trow_at h.p fun i hi => hb.block i (h.p.lt i hi).2, h.bl.trans (hb.mono h.bl.size)⟩
/-- Behind the append: the row is longer. -/
structure RAp (w4 w5 : World) (vt : Value) (L : List Tm) (vs : List (Value × Value)) (t : Tm) (v1 v2 vt' : Value) : Prop where
  row : w5.ownsRow 0 35 6 vt' (L.length + 1) (rowC L vs ++ tmC t v1 v2)
  gr : (w4.alloc (.cells #[.int .i64 t.kind, .int .i64 t.label, .int .i64 t.a, .int .i64 t.b, v1, v2] 35)).grownBy w5 vt.ownBlock
  at_ : vt'.ownBlock = vt.ownBlock ∨ vt'.ownBlock = some (w4.heap.size + 1)
theorem RAp.other {w4 w5 : World} {vt : Value} {L : List Tm} {vs : List (Value × Value)} {t : Tm} {v1 v2 vt' : Value} (h : RAp w4 w5 vt L vs t v1 v2 vt') {i : Nat} (hi : i < w4.heap.size) (hn : vt.ownBlock ≠ some i) : w5.heap[i]? = w4.heap[i]? := by
  rw [h.gr.block i (by simp; omega) (fun e => hn e.symm), Below.heap_alloc _ _ _ hi]
theorem RSto.apart {w : World} {b : Nat} {cs : Array Value} {vt : Value} {rs : Nat → Value} {L M : List Tm} {vs : List (Value × Value)} (h : RSto w b cs vt rs L M vs) : vt.ownBlock ≠ some b := fun e => by
  obtain ⟨c, hc⟩ := row_cells h.row e
  exact cells_ne hc h.cell (by decide) rfl
theorem RAp.cell {w4 w5 : World} {b : Nat} {cs : Array Value} {vt : Value} {rs : Nat → Value} {L M : List Tm} {vs : List (Value × Value)} {t : Tm} {v1 v2 vt' : Value} (h4 : RSto w4 b cs vt rs L M vs) (h : RAp w4 w5 vt L vs t v1 v2 vt') : w5.heap[b]? = some (.cells cs 32 (0, 0)) := by
  rw [h.other (t_lt h4.cell) h4.apart]; exact h4.cell
theorem RAp.foot {w w4 w5 : World} {b : Nat} {cs : Array Value} {vt : Value} {rs : Nat → Value} {L : List Tm} {vs : List (Value × Value)} {t : Tm} {v1 v2 vt' : Value} {B : Nat} (h : RAp w4 w5 vt L vs t v1 v2 vt') (h0 : RSto w b cs vt rs L L vs) (hx : RBox w w4 B t v1 v2) (hB : w.heap.size ≤ B) : (w5.setCell ⟨b, 0, none⟩ vt').heap[B]? = w4.heap[B]? := by
  have hb := t_lt h0.cell
  rw [set_other _ _ _ _ _ (by omega), h.other (t_lt hx.box) fun e => by have := (h0.row.lt _ e).2; omega]
/-- The store with its longer row; the rows of sums as they were. -/
theorem rsto_mid {w w4 w5 : World} {b : Nat} {cs : Array Value} {vt : Value} {rs : Nat → Value} {L : List Tm} {vs : List (Value × Value)} {t : Tm} {v1 v2 vt' : Value} {B : Nat} (h0 : RSto w b cs vt rs L L vs) (hx : RBox w w4 B t v1 v2) (h : RAp w4 w5 vt L vs t v1 v2 vt') (hbd : t.Bd) (hlen : L.length < 100000) : RSto (w5.setCell ⟨b, 0, none⟩ vt') b (cs.setIfInBounds 0 vt') vt' rs (L ++ [t]) L (vs ++ [(v1, v2)]) := by
  have h4 := h0.below (hx.bl.mono (Nat.le_refl _))
  have hc := h.cell h4
  have hR : w5.ownsRow 0 35 6 vt' (L ++ [t]).length (rowC (L ++ [t]) (vs ++ [(v1, v2)])) := by
    rw [rowC_snoc L vs h4.len, List.length_append]
    exact h.row
  have lst : ∀ {i : Nat} {c : Array Value} {s : TypeId}, w4.heap[i]? = some (.cells c s (0, 0)) → s ≠ 35 → s ≠ 32 → (w5.setCell ⟨b, 0, none⟩ vt').heap[i]? = w4.heap[i]? := fun hi n1 n2 => by
    rw [set_other _ _ _ _ _ (cells_ne hi h4.cell n2), h.other (t_lt hi) fun e => ?_]
    obtain ⟨c', hc'⟩ := row_cells h4.row e
    exact cells_ne hi hc' n1 rfl
  have lstI : ∀ {B : Nat} {v : Value} {zs : List Int}, OwnI w4 B v zs → OwnI (w5.setCell ⟨b, 0, none⟩ vt') 0 v zs := fun ho => row_base (trow_at ho fun k hk => by
    obtain ⟨c, hc⟩ := row_cells ho hk
    exact lst hc (by decide) (by decide)) (Nat.zero_le _)
  have lstP : ∀ {B : Nat} {v : Value} {ps : List (Int × Int)}, OwnP w4 B v ps → OwnP (w5.setCell ⟨b, 0, none⟩ vt') 0 v ps := fun ho => row_base (trow_at ho fun k hk => by
    obtain ⟨c, hc⟩ := row_cells ho hk
    exact lst hc (by decide) (by decide)) (Nat.zero_le _)
  have hsz : 0 < cs.size := (Array.getElem?_eq_some_iff.1 h4.c0).1
  refine ⟨heap_setCell_same _ b 0 _ _ _ hc, by rw [Array.getElem?_setIfInBounds_self_of_lt hsz], fun k hk => by rw [Array.getElem?_setIfInBounds_ne (by omega)]; exact h4.ch k hk, trow_at hR fun i hi => ?_, fun k hk => lstI (h4.rows k hk), by simp [h4.len], fun i s v hs hv => ?_, fun s hs => ?_, by simp; omega, h4.ap, fun v hv k hk i hi => ?_⟩
  · obtain ⟨c', hc'⟩ := row_cells hR hi
    exact set_other _ _ _ _ _ (cells_ne hc' hc (by decide))
  · rcases Nat.lt_or_ge i L.length with hi | hi
    · rw [List.getElem?_append_left hi] at hs
      rw [List.getElem?_append_left (by rw [h4.len]; exact hi)] at hv
      obtain ⟨l1, l2⟩ := h4.lists i s v hs hv
      exact ⟨lstI l1, lstP l2⟩
    · rw [List.getElem?_append_right hi] at hs
      rw [List.getElem?_append_right (by rw [h4.len]; exact hi), h4.len] at hv
      have hi0 : i - L.length = 0 := by
        have := (List.getElem?_eq_some_iff.1 hs).1
        simp at this; omega
      rw [hi0] at hs hv
      simp at hs hv
      subst hs; subst hv
      exact ⟨lstI hx.n, lstP hx.p⟩
  · rcases List.mem_append.1 hs with hs | hs
    · exact h4.bd s hs
    · rw [List.mem_singleton.1 hs]; exact hbd
  · rcases List.mem_append.1 hv with hv | hv
    · exact h4.al v hv k hk i hi
    · rw [List.mem_singleton.1 hv]
      intro e
      have := (hx.n.lt i e).1
      have := ((h0.rows k hk).lt i hi).2
      omega
theorem rsto_kept {w w4 w5 : World} {b : Nat} {vt : Value} {rs : Nat → Value} {L : List Tm} {vs : List (Value × Value)} {t : Tm} {v1 v2 vt' : Value} {B : Nat} (hx : RBox w w4 B t v1 v2) (h : RAp w4 w5 vt L vs t v1 v2 vt') : Kept (RFoot b vt rs vs) w (w5.setCell ⟨b, 0, none⟩ vt') := by
  have k1 : Kept (RFoot b vt rs vs) w w4 := .of_below hx.bl
  have k2 : Kept (RFoot b vt rs vs) w4 (w4.alloc (.cells #[.int .i64 t.kind, .int .i64 t.label, .int .i64 t.a, .int .i64 t.b, v1, v2] 35)) := .of_below ((Below.refl _ _).alloc (Nat.le_refl _) _)
  have k3 : Kept (RFoot b vt rs vs) _ w5 := (Kept.of_grown h.gr).mono fun k _ e => .inr (.inl e)
  have k4 : Kept (RFoot b vt rs vs) w5 (w5.setCell ⟨b, 0, none⟩ vt') := (Kept.setCell w5 b 0 vt').mono fun k _ e => .inl e
  exact ((k1.trans k2).trans k3).trans k4
/-- Another value at one place. -/
def upd (f : Nat → Value) (k : Nat) (v : Value) : Nat → Value := fun h => if h = k then v else f h
theorem upd_same (f : Nat → Value) (k : Nat) (v : Value) : upd f k v k = v := if_pos rfl
theorem upd_other (f : Nat → Value) {k h : Nat} (v : Value) (hne : h ≠ k) : upd f k v h = f h := if_neg hne
theorem upd_self (f : Nat → Value) (k : Nat) : upd f k (f k) = f := by
  funext h
  unfold upd
  split
  · rename_i e; rw [e]
  · rfl
theorem Kept.trans2 {F G : Nat → Prop} {a b c : World} (h : Kept F a b) (k : Kept G b c) (hG : ∀ i, G i → F i ∨ a.heap.size ≤ i) : Kept F a c :=
  ⟨k.os.trans h.os, k.tape.trans h.tape, k.output.trans h.output, Nat.le_trans h.size k.size, fun i hi hf => (k.block i (Nat.lt_of_lt_of_le hi h.size) fun hg => (hG i hg).elim hf fun h => by omega).trans (h.block i hi hf)⟩
theorem iC_snoc (zs : List Int) (z : Int) : iC (zs ++ [z]) = iC zs ++ [.int .i64 z] := by simp [iC]
/-- Behind the append to the row of the sum. -/
theorem rsto_fin {w6 w7 w8 : World} {b : Nat} {cs : Array Value} {vt' v' : Value} {rs : Nat → Value} {L : List Tm} {vs : List (Value × Value)} {t : Tm} (h6 : RSto w6 b cs vt' rs (L ++ [t]) L vs) (hb : Below w6.heap.size w6 w7)
    (ho : w8.ownsRow 0 3 1 v' ((Tm.idx L t.hash).length + 1) (iC (Tm.idx L t.hash) ++ [.int .i64 L.length])) (hg : w7.grownBy w8 (rs t.hash).ownBlock) (hat : v'.ownBlock = (rs t.hash).ownBlock ∨ v'.ownBlock = some w7.heap.size) :
    RSto (w8.setCell ⟨b, t.hash + 1, none⟩ v') b (cs.setIfInBounds (t.hash + 1) v') vt' (upd rs t.hash v') (L ++ [t]) (L ++ [t]) vs ∧ Kept (RFoot b vt' rs vs) w6 (w8.setCell ⟨b, t.hash + 1, none⟩ v') := by
  have hh := Tm.hash_lt t
  have h7 := h6.below hb
  have hrb : (rs t.hash).ownBlock ≠ some b := fun e => by
    obtain ⟨c, hc⟩ := row_cells (h7.rows _ hh) e
    exact cells_ne hc h7.cell (by decide) rfl
  have oth : ∀ {i : Nat}, i < w7.heap.size → (rs t.hash).ownBlock ≠ some i → w8.heap[i]? = w7.heap[i]? := fun hi hn => by
    exact hg.block _ hi (fun e => hn e.symm)
  have hc8 : w8.heap[b]? = some (.cells cs 32 (0, 0)) := by rw [oth (t_lt h7.cell) hrb]; exact h7.cell
  have oth2 : ∀ {i : Nat}, i < w7.heap.size → (rs t.hash).ownBlock ≠ some i → i ≠ b → (w8.setCell ⟨b, t.hash + 1, none⟩ v').heap[i]? = w7.heap[i]? := fun hi hn hne => by
    rw [set_other _ _ _ _ _ hne, oth hi hn]
  have nb : ∀ {B : Nat} {e : TypeId} {sz n : Nat} {v : Value} {xs : List Value}, w7.ownsRow B e sz v n xs → e ≠ 32 → ∀ i, v.ownBlock = some i → i ≠ b := fun hr hne i hi => by
    obtain ⟨c, hc⟩ := row_cells hr hi
    exact cells_ne hc h7.cell hne
  have hsz : t.hash + 1 < cs.size := (Array.getElem?_eq_some_iff.1 (h7.ch _ hh)).1
  have kb : Kept (RFoot b vt' rs vs) w6 (w8.setCell ⟨b, t.hash + 1, none⟩ v') := by
    have k1 : Kept (RFoot b vt' rs vs) w6 w7 := .of_below hb
    have k3 : Kept (RFoot b vt' rs vs) _ w8 := (Kept.of_grown hg).mono fun k _ e => .inr (.inr (.inl ⟨t.hash, hh, e⟩))
    have k4 : Kept (RFoot b vt' rs vs) w8 (w8.setCell ⟨b, t.hash + 1, none⟩ v') := (Kept.setCell w8 b (t.hash + 1) v').mono fun k _ e => .inl e
    exact (k1.trans k3).trans k4
  refine ⟨⟨heap_setCell_same _ b _ _ _ _ hc8, by rw [Array.getElem?_setIfInBounds_ne (by omega)]; exact h7.c0, fun k hk => ?_, trow_at h7.row fun i hi => oth2 (h7.row.lt i hi).2 (fun e => ?_) (nb h7.row (by decide) i hi), fun k hk => ?_, h7.len, fun i s v hs hv => ?_, h7.bd, h7.big, fun k k' hk hk' hne i hi => ?_, fun v hv k hk i hi => ?_⟩, kb⟩
  · by_cases e : k = t.hash
    · subst e; rw [Array.getElem?_setIfInBounds_self_of_lt hsz, upd_same]
    · rw [Array.getElem?_setIfInBounds_ne (by omega), upd_other _ _ e]; exact h7.ch k hk
  · obtain ⟨c, hc⟩ := row_cells h7.row hi
    obtain ⟨c', hc'⟩ := row_cells (h7.rows _ hh) e
    exact cells_ne hc hc' (by decide) rfl
  · by_cases e : k = t.hash
    · subst e
      rw [upd_same, Tm.idx_snoc, if_pos rfl]
      unfold OwnI
      rw [List.length_append, List.length_singleton, iC_snoc]
      refine trow_at ho fun i hi => set_other _ _ _ _ _ ?_
      obtain ⟨c, hc⟩ := row_cells ho hi
      exact cells_ne hc hc8 (by decide)
    · rw [upd_other _ _ e, Tm.idx_snoc, if_neg (fun h => e h.symm)]
      have hr := h7.rows k hk
      exact trow_at hr fun i hi => oth2 (hr.lt i hi).2 (fun h => h7.ap t.hash k hh hk (fun h => e h.symm) i h hi) (nb hr (by decide) i hi)
  · obtain ⟨l1, l2⟩ := h7.lists i s v hs hv
    refine ⟨trow_at l1 fun j hj => oth2 (l1.lt j hj).2 (fun h => h7.al v (List.mem_of_getElem? hv) _ hh j h hj) (nb l1 (by decide) j hj), trow_at l2 fun j hj => oth2 (l2.lt j hj).2 (fun h => ?_) (nb l2 (by decide) j hj)⟩
    obtain ⟨c, hc⟩ := row_cells l2 hj
    obtain ⟨c', hc'⟩ := row_cells (h7.rows _ hh) h
    exact cells_ne hc hc' (by decide) rfl
  · have nw : ∀ k, k < 512 → (rs k).ownBlock ≠ some w7.heap.size := fun k hk e => by have := ((h7.rows k hk).lt _ e).2; omega
    by_cases e : k = t.hash
    · subst e
      rw [upd_same] at hi
      rw [upd_other _ _ (fun h => hne h.symm)]
      rcases hat with h | h
      · exact h7.ap _ k' hh hk' hne i (h ▸ hi)
      · rw [h] at hi
        have := Option.some.inj hi
        subst this
        exact nw k' hk'
    · rw [upd_other _ _ e] at hi
      by_cases e' : k' = t.hash
      · subst e'
        rw [upd_same]
        rcases hat with h | h
        · rw [h]; exact h7.ap k _ hk hh hne i hi
        · rw [h]
          intro h'
          have := Option.some.inj h'
          subst this
          exact nw k hk hi
      · rw [upd_other _ _ e']; exact h7.ap k k' hk hk' hne i hi
  · by_cases e : k = t.hash
    · subst e
      rw [upd_same] at hi
      rcases hat with h | h
      · exact h7.al v hv _ hh i (h ▸ hi)
      · rw [h] at hi
        have := Option.some.inj hi
        subst this
        intro hv1
        obtain ⟨s, _, l1, _⟩ := h7.list_at hv
        have := (l1.lt _ hv1).2
        omega
    · rw [upd_other _ _ e] at hi
      exact h7.al v hv k hk i hi
theorem one_one (z : Int) : ∀ x ∈ [Value.int .i64 z], x.oneCell' = true := fun x hx => by rw [List.mem_singleton.1 hx]; rfl
/-- Behind the append of a number. -/
structure RInt (w9 w10 : World) (b : Nat) (cs : Array Value) (vr : Value) (L : List Tm) (t : Tm) (v' : Value) : Prop where
  b : w10.heap[b]? = some (.cells cs 32 (0, 0))
  o : w10.ownsRow 0 3 1 v' ((Tm.idx L t.hash).length + 1) (iC (Tm.idx L t.hash) ++ [.int .i64 L.length])
  g : w9.grownBy w10 vr.ownBlock
  a : v'.ownBlock = vr.ownBlock ∨ v'.ownBlock = some w9.heap.size
theorem rap_int {w6 w9 w10 : World} {b : Nat} {cs : Array Value} {vt' : Value} {rs : Nat → Value} {L M : List Tm} {vs : List (Value × Value)} {t : Tm} {ar : Option Addr} {nr cr g2 c2 : Nat} (hb : Below w6.heap.size w6 w9) (h6 : RSto w6 b cs vt' rs M L vs) (hrs : rs t.hash = .slice ar nr cr) (hh : t.hash < 512)
    (ho : w10.ownsRow 0 3 1 (.slice (some ⟨g2, 0, none⟩) (nr + 1) c2) (nr + 1) (iC (Tm.idx L t.hash) ++ [.int .i64 L.length])) (hg : w9.grownBy w10 (Value.slice ar nr cr).ownBlock) (hat : (Value.slice ar nr cr).ownBlock = some g2 ∨ g2 = w9.heap.size) : RInt w9 w10 b cs (.slice ar nr cr) L t (.slice (some ⟨g2, 0, none⟩) (nr + 1) c2) := by
  have h9 := h6.below hb
  have hr := h9.rows _ hh
  have hnr : nr = (Tm.idx L t.hash).length := by
    obtain ⟨ao, cap, e⟩ := row_shape hr
    rw [hrs] at e
    injection e
  refine ⟨?_, by rw [← hnr]; exact ho, hg, hat.imp (fun h => h.symm) (fun h => by simp [Value.ownBlock, h])⟩
  rw [hg.block b (t_lt h9.cell) fun e => ?_]
  · exact h9.cell
  · rw [← hrs] at e
    obtain ⟨c, hc⟩ := row_cells hr e.symm
    exact cells_ne hc h9.cell (by decide) rfl
theorem rint_box {w6 w9 w10 : World} {b B : Nat} {cs cs' : Array Value} {vt' vr v' : Value} {rs : Nat → Value} {L M : List Tm} {vs : List (Value × Value)} {t : Tm} {c : Array Value} (hb : Below w6.heap.size w6 w9) (h6 : RSto w6 b cs vt' rs M L vs) (hrs : rs t.hash = vr) (hh : t.hash < 512) (h : RInt w9 w10 b cs' vr L t v') (hB : w6.heap[B]? = some (.cells c 35 (0, 0))) : w10.heap[B]? = some (.cells c 35 (0, 0)) := by
  have hB9 := (hb.block _ (t_lt hB)).trans hB
  rw [h.g.block B (t_lt hB9) fun e => ?_]
  · exact hB9
  · rw [← hrs] at e
    obtain ⟨c', hc'⟩ := row_cells ((h6.below hb).rows _ hh) e.symm
    exact cells_ne hB9 hc' (by decide) rfl
theorem set_zero {w : World} {b : Nat} {cs : Array Value} {ty : TypeId} {u : Value} (k : Nat) (v : Value) (h : w.heap[b]? = some (.cells cs ty (0, 0))) (h0 : cs[0]? = some u) : (w.setCell ⟨b, 1 + k, none⟩ v).cell? ⟨b, 0, none⟩ = some u :=
  cell0_of (heap_setCell_same _ b _ _ _ _ h) (by rw [Array.getElem?_setIfInBounds_ne (by omega)]; exact h0)
theorem news_one {w : World} {N : Nat} {x : Value} (h : w.cell? ⟨N, 0, none⟩ = some x) : ∀ j u, [x][j]? = some u → w.cell? ((⟨N, 0, none⟩ : Addr).add j) = some u := by
  intro j u hj
  match j, hj with
  | 0, hj =>
    simp at hj
    subst hj
    simpa [Addr.add] using h
theorem cells_kept {w w' : World} (h : Below w.heap.size w w') : ∀ p v, w.cell? p = some v → w'.cell? p = some v := fun _ _ hv => (h.cell (World.block_lt_of_cell? w _ hv)).trans hv
theorem foot_fin {w w4 w5 w7 : World} {b : Nat} {vt vt' v' : Value} {rs : Nat → Value} {L : List Tm} {vs : List (Value × Value)} {t : Tm} {v1 v2 : Value} {B : Nat} (hx : RBox w w4 B t v1 v2) (h : RAp w4 w5 vt L vs t v1 v2 vt') (h7 : w.heap.size ≤ w7.heap.size) (hat : v'.ownBlock = (rs t.hash).ownBlock ∨ v'.ownBlock = some w7.heap.size) :
    ∀ i, RFoot b vt' (upd rs t.hash v') (vs ++ [(v1, v2)]) i → RFoot b vt rs vs i ∨ w.heap.size ≤ i := by
  intro i hi
  rcases hi with hi | hi | ⟨k, hk, hi⟩ | ⟨v, hv, hi⟩
  · exact .inl (.inl hi)
  · rcases h.at_ with e | e
    · exact .inl (.inr (.inl (e ▸ hi)))
    · rw [e] at hi
      have := hx.bl.size
      exact .inr (by have := Option.some.inj hi; omega)
  · by_cases e : k = t.hash
    · subst e
      rw [upd_same] at hi
      rcases hat with h | h
      · exact .inl (.inr (.inr (.inl ⟨_, hk, h ▸ hi⟩)))
      · rw [h] at hi
        exact .inr (by have := Option.some.inj hi; omega)
    · rw [upd_other _ _ e] at hi
      exact .inl (.inr (.inr (.inl ⟨k, hk, hi⟩)))
  · rcases List.mem_append.1 hv with hv | hv
    · exact .inl (.inr (.inr (.inr ⟨v, hv, hi⟩)))
    · rw [List.mem_singleton.1 hv] at hi
      rcases hi with hi | hi
      · exact .inr (hx.n.lt i hi).1
      · exact .inr (hx.p.lt i hi).1
end Go.Proofs.YthnenpncajpibaaGreatDoor
