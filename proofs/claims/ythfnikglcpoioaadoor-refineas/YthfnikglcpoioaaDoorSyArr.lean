/- Rows of memory that make lays: what they hold, and that they are rows of one's own. -/
import Derived.Test.YthfnikglcpoioaaDoorBase
import Derived.Laws.MakeOwn
namespace Go.Proofs.YthfnikglcpoioaaDoor
open Go.RowKit Go.Maps
/-- A block of one's own, made since w, that holds just these cells. -/
structure Arr (ty : TypeId) (w wr : World) (gi : Nat) (vs : List Value) : Prop where
  bl : Below w.heap.size w wr
  ids : ∃ cs, wr.heap[gi]? = some (.cells cs ty (0, 0)) ∧ cs.toList = vs
  gu : w.heap.size ≤ gi
theorem Arr.lt {ty : TypeId} {w wr : World} {gi : Nat} {vs : List Value} (h : Arr ty w wr gi vs) : gi < wr.heap.size := by
  obtain ⟨cs, hc, _⟩ := h.ids
  exact t_lt hc
theorem Arr.below {ty : TypeId} {w wr w' : World} {gi : Nat} {vs : List Value} (h : Arr ty w wr gi vs) (hb : Below wr.heap.size wr w') : Arr ty w w' gi vs := by
  obtain ⟨cs, hc, hx⟩ := h.ids
  exact ⟨h.bl.trans (hb.mono h.bl.size), ⟨cs, (hb.block _ (t_lt hc)).trans hc, hx⟩, h.gu⟩
/-- Other blocks that are new turn. -/
theorem Arr.kept {ty : TypeId} {w wr w' : World} {gi : Nat} {vs : List Value} {F : Nat → Prop} (h : Arr ty w wr gi vs) (hk : Kept F wr w') (hF : ∀ b, F b → w.heap.size ≤ b ∧ b ≠ gi) : Arr ty w w' gi vs := by
  obtain ⟨cs, hc, hx⟩ := h.ids
  exact ⟨h.bl.trans (hk.below h.bl.size fun b hb => (hF b hb).1), ⟨cs, (hk.block _ (t_lt hc) fun hf => (hF gi hf).2 rfl).trans hc, hx⟩, h.gu⟩
theorem Arr.cell {ty : TypeId} {w wr : World} {gi : Nat} {vs : List Value} (h : Arr ty w wr gi vs) {i : Nat} {x : Value} (hi : vs[i]? = some x) : wr.cell? ⟨gi, i, none⟩ = some x := by
  obtain ⟨cs, hc, hx⟩ := h.ids
  refine cell0_of hc ?_
  rw [← Array.getElem?_toList, hx]
  exact hi
theorem Arr.free {ty : TypeId} {w wr : World} {gi : Nat} {vs : List Value} (h : Arr ty w wr gi vs) (i : Nat) : wr.frozen? ⟨gi, i, none⟩ = false := by
  obtain ⟨cs, hc, hx⟩ := h.ids
  exact blk_free hc i
theorem Arr.set {ty : TypeId} {w wr : World} {gi : Nat} {vs : List Value} (h : Arr ty w wr gi vs) (i : Nat) (x : Value) : Arr ty w (wr.setCell ⟨gi, i, none⟩ x) gi (vs.set i x) := by
  obtain ⟨cs, hc, hx⟩ := h.ids
  refine ⟨h.bl.setCell h.gu _, ⟨_, heap_setCell_same wr gi i cs _ _ hc, ?_⟩, h.gu⟩
  rw [Array.toList_setIfInBounds, hx]
theorem Arr.back {ty : TypeId} {w w1 wr : World} {g : Nat} {vs : List Value} (h : Arr ty w1 wr g vs) (hb : Below w.heap.size w w1) : Arr ty w wr g vs := ⟨hb.trans (h.bl.mono hb.size), h.ids, Nat.le_trans hb.size h.gu⟩
/-- It is a row of one's own. -/
theorem Arr.own {ty : TypeId} {w wr : World} {gi : Nat} {vs : List Value} (h : Arr ty w wr gi vs) (hn : vs.length ≤ maxLen) : wr.ownsRow w.heap.size ty 1 (.slice (some ⟨gi, 0, none⟩) vs.length vs.length) vs.length vs := by
  obtain ⟨cs, hc, hx⟩ := h.ids
  refine ⟨by rw [Nat.mul_one], .inr ⟨gi, vs.length, cs, rfl, h.gu, hc, Nat.le_refl _, hn, ?_, ?_⟩⟩
  · rw [← hx]; simp
  · rw [hx]; simp
/-- The cells of a new list of n noughts. -/
def madeV (z : Value) (n : Nat) : Array Value := madeCells z.cells (n * 1)
theorem madeV_eq (z : Value) (hz : z.cells = #[z]) (n : Nat) : (madeV z n).toList = List.replicate n z := by
  apply List.ext_getElem
  · simp [madeV, madeCells]
  · intro i h1 h2
    simp [madeV, madeCells, hz, Nat.mod_one]
theorem arr_new (ty : TypeId) (z : Value) (hz : z.cells = #[z]) (n : Nat) (w : World) : Arr ty w (w.alloc (.cells (madeV z n) ty)) w.heap.size (List.replicate n z) := ⟨(Below.refl _ _).alloc (Nat.le_refl _) _, ⟨_, (MapKept.heap_alloc w _).1, madeV_eq z hz n⟩, Nat.le_refl _⟩
theorem make_of (t e : TypeId) (z : Value) (by8 : Nat) (ht : Tryd.prog.underlying t = some (.slice e)) (hi : (Tryd.prog.info? e).map (fun i => (i.zero, i.size, i.bytes)) = some (some z, 1, by8)) (n : Nat) (hn : n ≤ 1000000) (hby : by8 ≤ 100) (w : World) : (Instr.makeSlice t (.int .i64 (n : Int)) (.int .i64 (n : Int))).run Tryd.prog w = .ok (.slice (some ⟨w.heap.size, 0, none⟩) n n) (w.alloc (.cells (madeV z n) e)) := by
  obtain ⟨i0, hi0, hz0, hz1, hz2⟩ := info_parts hi
  have hm : n * by8 ≤ 1000000 * 100 := Nat.mul_le_mul hn hby
  have h := run_makeSlice (P := Tryd.prog) w t e i0 z ht hi0 hz0 .i64 .i64 (n : Int) (n : Int) (by omega) (Int.le_refl _) (by rw [hz1]; omega) (by rw [hz2]; have h9 : (by8 : Int) * (n : Int) ≤ 100000000 := (by rw [Int.mul_comm]; exact Int.ofNat_le.2 hm); omega) (by omega)
  rw [h, hz1]
  simp [madeV]
theorem Tryd.infoI4 : (Tryd.prog.info? 3).map (fun i => (i.zero, i.size, i.bytes)) = some (some (.int .i64 0), 1, 8) := by kernel_rfl
theorem makeI (n : Nat) (hn : n ≤ 1000000) (w : World) : (Instr.makeSlice 34 (.int .i64 (n : Int)) (.int .i64 (n : Int))).run Tryd.prog w = .ok (.slice (some ⟨w.heap.size, 0, none⟩) n n) (w.alloc (.cells (madeV (.int .i64 0) n) 3)) := make_of _ _ _ 8 Tryd.underlying34 Tryd.infoI4 n hn (by decide) w
theorem Tryd.infoB4 : (Tryd.prog.info? 4).map (fun i => (i.zero, i.size, i.bytes)) = some (some (.bool false), 1, 1) := by kernel_rfl
theorem makeB (n : Nat) (hn : n ≤ 1000000) (w : World) : (Instr.makeSlice 29 (.int .i64 (n : Int)) (.int .i64 (n : Int))).run Tryd.prog w = .ok (.slice (some ⟨w.heap.size, 0, none⟩) n n) (w.alloc (.cells (madeV (.bool false) n) 4)) := make_of _ _ _ 1 Tryd.underlying29 Tryd.infoB4 n hn (by decide) w
end Go.Proofs.YthfnikglcpoioaaDoor
