/- A list of numbers that the document's Same and Weight make. -/
import Derived.Test.YthnenpncajpibaaGreatDoorRtPut
import Derived.Test.YthnenpncajpibaaGreatDoorTmBack0
namespace Go.Proofs.YthnenpncajpibaaGreatDoor
open Go.RowKit Go.Maps
/-- The list of numbers, laid since. -/
structure Ra (w wr : World) (gi : Nat) (xs : List Int) : Prop where
  bl : Below w.heap.size w wr
  ids : ∃ cs, wr.heap[gi]? = some (.cells cs 3 (0, 0)) ∧ cs.toList = iC xs
  gu : w.heap.size ≤ gi
theorem Ra.lt {w wr : World} {gi : Nat} {xs : List Int} (h : Ra w wr gi xs) : gi < wr.heap.size := by
  obtain ⟨cs, hc, _⟩ := h.ids
  exact t_lt hc
theorem Ra.below {w wr w' : World} {gi : Nat} {xs : List Int} (h : Ra w wr gi xs) (hb : Below wr.heap.size wr w') : Ra w w' gi xs := by
  obtain ⟨cs, hc, hx⟩ := h.ids
  exact ⟨h.bl.trans (hb.mono h.bl.size), ⟨cs, (hb.block _ (t_lt hc)).trans hc, hx⟩, h.gu⟩
theorem Ra.cell {w wr : World} {gi : Nat} {xs : List Int} (h : Ra w wr gi xs) {i : Nat} {x : Int} (hi : xs[i]? = some x) : wr.cell? ⟨gi, i, none⟩ = some (.int .i64 x) := by
  obtain ⟨cs, hc, hx⟩ := h.ids
  rw [tb_cell hc, ← Array.getElem?_toList, hx]
  simp [iC, hi]
theorem Ra.free {w wr : World} {gi : Nat} {xs : List Int} (h : Ra w wr gi xs) (i : Nat) : wr.frozen? ⟨gi, i, none⟩ = false := by
  obtain ⟨cs, hc, hx⟩ := h.ids
  exact blk_free hc i
theorem Ra.set {w wr : World} {gi : Nat} {xs : List Int} (h : Ra w wr gi xs) (i : Nat) (x : Int) : Ra w (wr.setCell ⟨gi, i, none⟩ (.int .i64 x)) gi (xs.set i x) := by
  obtain ⟨cs, hc, hx⟩ := h.ids
  refine ⟨h.bl.setCell h.gu _, ⟨_, heap_setCell_same wr gi i cs _ _ hc, ?_⟩, h.gu⟩
  rw [Array.toList_setIfInBounds, hx]
  unfold iC
  rw [List.map_set]
/-- A cell of another block is turned that was laid since. -/
theorem Ra.other {w wr : World} {gi : Nat} {xs : List Int} (h : Ra w wr gi xs) (b o : Nat) (v : Value) (hb : w.heap.size ≤ b) (hne : gi ≠ b) : Ra w (wr.setCell ⟨b, o, none⟩ v) gi xs := by
  obtain ⟨cs, hc, hx⟩ := h.ids
  exact ⟨h.bl.setCell hb _, ⟨cs, (set_other _ _ _ _ _ hne).trans hc, hx⟩, h.gu⟩
end Go.Proofs.YthnenpncajpibaaGreatDoor
