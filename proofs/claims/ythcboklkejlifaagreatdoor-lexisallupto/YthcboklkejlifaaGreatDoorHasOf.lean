/- An own row of words is a list of words. -/
import Derived.Test.YthcboklkejlifaaGreatDoorScan
import Derived.Test.YthcboklkejlifaaGreatDoorSame
namespace Go.Proofs.YthcboklkejlifaaGreatDoor
open Go.RowKit
def toZ (t : Tok) : ZTok := ⟨t.kind, t.text, t.line, t.col⟩
theorem toksCells_at (ts : List Tok) : ∀ k t, ts[k]? = some t → (toksCells ts)[k * 4]? = some (.int .i64 t.kind) ∧ (toksCells ts)[k * 4 + 1]? = some (.string t.text) ∧ (toksCells ts)[k * 4 + 2]? = some (.int .i64 t.line) ∧ (toksCells ts)[k * 4 + 3]? = some (.int .i64 t.col) := by
  induction ts with
  | nil => intro k t h; simp at h
  | cons a r ih =>
    intro k t h
    have e : toksCells (a :: r) = tokCells a ++ toksCells r := by simp [toksCells]
    have hl : (tokCells a).length = 4 := rfl
    rw [e]
    cases k with
    | zero => simp at h; subst h; exact ⟨rfl, rfl, rfl, rfl⟩
    | succ k =>
      have h' : r[k]? = some t := by simpa using h
      obtain ⟨c0, c1, c2, c3⟩ := ih k t h'
      refine ⟨?_, ?_, ?_, ?_⟩
      · rw [List.getElem?_append_right (by rw [hl]; omega), hl, show (k + 1) * 4 - 4 = k * 4 from by omega]; exact c0
      · rw [List.getElem?_append_right (by rw [hl]; omega), hl, show (k + 1) * 4 + 1 - 4 = k * 4 + 1 from by omega]; exact c1
      · rw [List.getElem?_append_right (by rw [hl]; omega), hl, show (k + 1) * 4 + 2 - 4 = k * 4 + 2 from by omega]; exact c2
      · rw [List.getElem?_append_right (by rw [hl]; omega), hl, show (k + 1) * 4 + 3 - 4 = k * 4 + 3 from by omega]; exact c3
theorem cell_add {w : World} {g j : Nat} {u : Value} (h : w.cell? ((⟨g, 0, none⟩ : Addr).add j) = some u) : w.cell? ⟨g, 0 + j, none⟩ = some u := by
  rw [Nat.zero_add]
  cases j with
  | zero => exact h
  | succ j => simpa [Addr.add] using h
theorem has_of_owns {w : World} {base : Nat} {v : Value} {ts : List Tok} (h : w.ownsRow base 57 4 v ts.length (toksCells ts)) : Has w v (ts.map toZ) := by
  rcases h.2 with ⟨rfl, h0⟩ | ⟨g, cap, cur, rfl, _⟩
  · have hts : ts = [] := List.length_eq_zero_iff.1 h0
    subst hts
    exact ⟨none, 0, 0, 0, rfl, fun h => by simp at h, fun k z hz => by simp at hz⟩
  · refine ⟨some ⟨g, 0, none⟩, g, 0, cap, by simp, fun _ => rfl, fun k z hz => ?_⟩
    rw [List.getElem?_map] at hz
    cases e : ts[k]? with
    | none => rw [e] at hz; simp at hz
    | some t =>
      rw [e] at hz
      simp at hz
      subst hz
      obtain ⟨c0, c1, c2, c3⟩ := toksCells_at ts k t e
      exact ⟨cell_add (h.cells (g := g) rfl _ _ c0), cell_add (h.cells (g := g) rfl _ _ c1), cell_add (h.cells (g := g) rfl _ _ c2), cell_add (h.cells (g := g) rfl _ _ c3)⟩
theorem has_nil (w : World) : Has w (.slice none 0 0) [] := ⟨none, 0, 0, 0, rfl, fun h => by simp at h, fun k z hz => by simp at hz⟩
end Go.Proofs.YthcboklkejlifaaGreatDoor
