/- The document's store in memory: what it holds, and what of it stays. -/
import Derived.Test.YthnenpncajpibaaGreatDoorRtMay
import Derived.Test.YthnenpncajpibaaGreatDoorCopy
namespace Go.Proofs.YthnenpncajpibaaGreatDoor
open Go.RowKit Go.Maps
namespace Tm
/-- The numbers of the terms with this sum. -/
def idx (L : List Tm) (h : Nat) : List Int := ((List.range L.length).filter fun i => (L[i]?.map Tm.hash) == some h).map fun i => ((i : Nat) : Int)
theorem idx_snoc (L : List Tm) (t : Tm) (h : Nat) : idx (L ++ [t]) h = if t.hash = h then idx L h ++ [(L.length : Int)] else idx L h := by
  unfold idx
  have e1 : (List.range L.length).filter (fun i => ((L ++ [t])[i]?.map Tm.hash) == some h) = (List.range L.length).filter (fun i => (L[i]?.map Tm.hash) == some h) :=
    List.filter_congr fun i hi => by
      have : i < L.length := List.mem_range.1 hi
      rw [List.getElem?_append_left this]
  rw [List.length_append, List.length_singleton, List.range_succ, List.filter_append, e1]
  by_cases ht : t.hash = h
  · rw [if_pos ht]; simp [ht]
  · rw [if_neg ht]; simp [ht]
theorem idx_mem {L : List Tm} {h : Nat} {z : Int} : z ∈ idx L h ↔ ∃ (i : Nat) (t : Tm), z = i ∧ L[i]? = some t ∧ t.hash = h := by
  unfold idx
  simp only [List.mem_map, List.mem_filter, List.mem_range, beq_iff_eq, Option.map_eq_some_iff]
  constructor
  · rintro ⟨i, ⟨_, t, ht, hh⟩, rfl⟩
    exact ⟨i, t, rfl, ht, hh⟩
  · rintro ⟨i, t, rfl, ht, hh⟩
    exact ⟨i, ⟨(List.getElem?_eq_some_iff.1 ht).1, t, ht, hh⟩, rfl⟩
theorem idx_len (L : List Tm) (h : Nat) : (idx L h).length ≤ L.length := by
  unfold idx
  rw [List.length_map]
  exact Nat.le_trans (List.length_filter_le _ _) (by simp)
end Tm
structure RSto (w : World) (b : Nat) (cs : Array Value) (vt : Value) (rs : Nat → Value) (L M : List Tm) (vs : List (Value × Value)) : Prop where
  cell : w.heap[b]? = some (.cells cs 32 (0, 0))
  c0 : cs[0]? = some vt
  ch : ∀ h, h < 512 → cs[h + 1]? = some (rs h)
  row : w.ownsRow 0 35 6 vt L.length (rowC L vs)
  rows : ∀ h, h < 512 → OwnI w 0 (rs h) (Tm.idx M h)
  len : vs.length = L.length
  lists : ∀ (i : Nat) (t : Tm) (v : Value × Value), L[i]? = some t → vs[i]? = some v → OwnI w 0 v.1 t.names ∧ OwnP w 0 v.2 t.pairs
  bd : ∀ t ∈ L, t.Bd
  big : L.length ≤ 100000
  ap : ∀ h h', h < 512 → h' < 512 → h ≠ h' → ∀ k, (rs h).ownBlock = some k → (rs h').ownBlock ≠ some k
  al : ∀ v ∈ vs, ∀ h, h < 512 → ∀ k, (rs h).ownBlock = some k → v.1.ownBlock ≠ some k
def RFoot (b : Nat) (vt : Value) (rs : Nat → Value) (vs : List (Value × Value)) (i : Nat) : Prop := i = b ∨ vt.ownBlock = some i ∨ (∃ h, h < 512 ∧ (rs h).ownBlock = some i) ∨ ∃ v ∈ vs, v.1.ownBlock = some i ∨ v.2.ownBlock = some i
theorem RSto.list_at {w : World} {b : Nat} {cs : Array Value} {vt : Value} {rs : Nat → Value} {L M : List Tm} {vs : List (Value × Value)} (h : RSto w b cs vt rs L M vs) {v : Value × Value} (hv : v ∈ vs) : ∃ t ∈ L, OwnI w 0 v.1 t.names ∧ OwnP w 0 v.2 t.pairs := by
  obtain ⟨i, hi, rfl⟩ := List.getElem_of_mem hv
  have hl : i < L.length := by rw [← h.len]; exact hi
  exact ⟨L[i], List.getElem_mem hl, h.lists i _ _ (List.getElem?_eq_getElem hl) (List.getElem?_eq_getElem hi)⟩
theorem RSto.foot_lt {w : World} {b : Nat} {cs : Array Value} {vt : Value} {rs : Nat → Value} {L M : List Tm} {vs : List (Value × Value)} (h : RSto w b cs vt rs L M vs) {i : Nat} (hi : RFoot b vt rs vs i) : i < w.heap.size := by
  rcases hi with rfl | hi | ⟨k, hk, hi⟩ | ⟨v, hv, hi | hi⟩
  · exact t_lt h.cell
  · exact (h.row.lt i hi).2
  · exact ((h.rows k hk).lt i hi).2
  · obtain ⟨t, _, h1, _⟩ := h.list_at hv
    exact (h1.lt i hi).2
  · obtain ⟨t, _, _, h1⟩ := h.list_at hv
    exact (h1.lt i hi).2
theorem RSto.at {w w' : World} {b : Nat} {cs : Array Value} {vt : Value} {rs : Nat → Value} {L M : List Tm} {vs : List (Value × Value)} (h : RSto w b cs vt rs L M vs) (hb : ∀ i, RFoot b vt rs vs i → w'.heap[i]? = w.heap[i]?) : RSto w' b cs vt rs L M vs :=
  ⟨by rw [hb b (.inl rfl)]; exact h.cell, h.c0, h.ch, trow_at h.row fun i hi => hb i (.inr (.inl hi)), fun k hk => trow_at (h.rows k hk) fun i hi => hb i (.inr (.inr (.inl ⟨k, hk, hi⟩))), h.len,
    fun i t v h1 h2 => ⟨trow_at (h.lists i t v h1 h2).1 fun k hk => hb k (.inr (.inr (.inr ⟨v, List.mem_of_getElem? h2, .inl hk⟩))), trow_at (h.lists i t v h1 h2).2 fun k hk => hb k (.inr (.inr (.inr ⟨v, List.mem_of_getElem? h2, .inr hk⟩)))⟩, h.bd, h.big, h.ap, h.al⟩
theorem RSto.below {w w' : World} {b : Nat} {cs : Array Value} {vt : Value} {rs : Nat → Value} {L M : List Tm} {vs : List (Value × Value)} (h : RSto w b cs vt rs L M vs) (hb : Below w.heap.size w w') : RSto w' b cs vt rs L M vs := h.at fun i hi => hb.block i (h.foot_lt hi)
theorem RSto.kept {w w' : World} {b : Nat} {cs : Array Value} {vt : Value} {rs : Nat → Value} {L M : List Tm} {vs : List (Value × Value)} {F : Nat → Prop} (h : RSto w b cs vt rs L M vs) (hk : Kept F w w') (hF : ∀ i, RFoot b vt rs vs i → ¬ F i) : RSto w' b cs vt rs L M vs := h.at fun i hi => hk.block i (h.foot_lt hi) (hF i hi)
/-- The cells of the store. -/
theorem RSto.cells {w : World} {b : Nat} {cs : Array Value} {vt : Value} {rs : Nat → Value} {L M : List Tm} {vs : List (Value × Value)} (h : RSto w b cs vt rs L M vs) : w.cell? ⟨b, 0, none⟩ = some vt ∧ (∀ k, k < 512 → w.cell? ⟨b, k + 1, none⟩ = some (rs k)) ∧ ∀ k, w.frozen? ⟨b, k, none⟩ = false :=
  ⟨by simp [World.cell?, h.cell, h.c0], fun k hk => by simp [World.cell?, h.cell, h.ch k hk], blk_free h.cell⟩
/-- A store with these terms, its blocks being those of F. -/
def RStoB (w : World) (b : Nat) (L : List Tm) (F : Nat → Prop) : Prop := ∃ cs vt rs vs, RSto w b cs vt rs L L vs ∧ F = RFoot b vt rs vs
theorem RStoB.foot_lt {w : World} {b : Nat} {L : List Tm} {F : Nat → Prop} (h : RStoB w b L F) {i : Nat} (hi : F i) : i < w.heap.size := by
  obtain ⟨cs, vt, rs, vs, hS, rfl⟩ := h
  exact hS.foot_lt hi
theorem RStoB.b {w : World} {b : Nat} {L : List Tm} {F : Nat → Prop} (h : RStoB w b L F) : F b := by
  obtain ⟨cs, vt, rs, vs, hS, rfl⟩ := h
  exact .inl rfl
theorem RStoB.kept {w w' : World} {b : Nat} {L : List Tm} {F G : Nat → Prop} (h : RStoB w b L F) (hk : Kept G w w') (hF : ∀ i, F i → ¬ G i) : RStoB w' b L F := by
  obtain ⟨cs, vt, rs, vs, hS, rfl⟩ := h
  exact ⟨cs, vt, rs, vs, hS.kept hk hF, rfl⟩
theorem RStoB.below {w w' : World} {b : Nat} {L : List Tm} {F : Nat → Prop} (h : RStoB w b L F) (hb : Below w.heap.size w w') : RStoB w' b L F := by
  obtain ⟨cs, vt, rs, vs, hS, rfl⟩ := h
  exact ⟨cs, vt, rs, vs, hS.below hb, rfl⟩
theorem RStoB.big {w : World} {b : Nat} {L : List Tm} {F : Nat → Prop} (h : RStoB w b L F) : L.length ≤ 100000 := by
  obtain ⟨cs, vt, rs, vs, hS, rfl⟩ := h
  exact hS.big
theorem RStoB.cell {w : World} {b : Nat} {L : List Tm} {F : Nat → Prop} (h : RStoB w b L F) : ∃ ao cap, w.cell? ⟨b, 0, none⟩ = some (.slice ao L.length cap) := by
  obtain ⟨cs, vt, rs, vs, hS, rfl⟩ := h
  obtain ⟨ao, cap, rfl⟩ := row_shape hS.row
  exact ⟨ao, cap, hS.cells.1⟩
theorem RStoB.bd {w : World} {b : Nat} {L : List Tm} {F : Nat → Prop} (h : RStoB w b L F) : ∀ t ∈ L, t.Bd := by
  obtain ⟨cs, vt, rs, vs, hS, rfl⟩ := h
  exact hS.bd
/-- A term of the store, as it lies in the row. -/
theorem RStoB.at {w : World} {b : Nat} {L : List Tm} {F : Nat → Prop} (h : RStoB w b L F) {i : Nat} {t : Tm} (hi : L[i]? = some t) : ∃ g cap vn vp, AtT w b g cap L.length i t vn vp := by
  obtain ⟨cs, vt, rs, vs, hS, rfl⟩ := h
  have hlt := (List.getElem?_eq_some_iff.1 hi).1
  obtain ⟨g, cap, rfl, _, _⟩ := hS.row.form (by omega)
  have hv : vs[i]? = some (vs[i]'(by rw [hS.len]; exact hlt)) := List.getElem?_eq_getElem _
  obtain ⟨l1, l2⟩ := hS.lists i t _ hi hv
  have hr := rowC_at L vs hS.len i t _ hi hv
  have hc : ∀ k, k < 6 → w.cell? ⟨g, i * 6 + k, none⟩ = (tmC t (vs[i]'(by rw [hS.len]; exact hlt)).1 (vs[i]'(by rw [hS.len]; exact hlt)).2)[k]? := fun k hk => by
    rw [hS.row.cellAt (i * 6 + k) (by omega), hr k hk]
  exact ⟨g, cap, _, _, ⟨hS.cells.1, hc 0 (by omega), hc 1 (by omega), hc 2 (by omega), hc 3 (by omega), hc 4 (by omega), hc 5 (by omega), l1.has, l2.has⟩⟩
/-- The row of a sum. -/
theorem RStoB.rowAt {w : World} {b : Nat} {L : List Tm} {F : Nat → Prop} (h : RStoB w b L F) {k : Nat} (hk : k < 512) : ∃ v, w.cell? ⟨b, k + 1, none⟩ = some v ∧ HasI w v (Tm.idx L k) := by
  obtain ⟨cs, vt, rs, vs, hS, rfl⟩ := h
  exact ⟨rs k, hS.cells.2.1 k hk, (hS.rows k hk).has⟩
set_option maxRecDepth 100000 in
theorem Tryz.zeroR : Tryz.zeroCells32 = Array.replicate 513 (.slice none 0 0) := by kernel_rfl
/-- The store that holds nothing. -/
theorem rsto_zero (w : World) : RSto (w.alloc (.cells Tryz.zeroCells32 32)) w.heap.size Tryz.zeroCells32 (.slice none 0 0) (fun _ => .slice none 0 0) [] [] [] := by
  refine ⟨(MapKept.heap_alloc w _).1, ?_, fun h hh => ?_, World.ownsRow_nil _ _ _ _, fun h hh => World.ownsRow_nil _ _ _ _, rfl, fun i t v h => by simp at h, fun t h => by simp at h, by simp, fun h h' _ _ _ k hk => (by cases hk), fun v hv => (by simp at hv)⟩
  · rw [Tryz.zeroR, Array.getElem?_replicate]; rfl
  · rw [Tryz.zeroR, Array.getElem?_replicate, if_pos (by omega)]
end Go.Proofs.YthnenpncajpibaaGreatDoor
