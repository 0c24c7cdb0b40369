/- Rows of edges in memory that are being sorted: their cells, and an exchange of two. -/
import Derived.Test.YtcjeijmphgpecaaDoorSyView
import Derived.Sort.AssemblyPlain
namespace Go.Proofs.YtcjeijmphgpecaaDoor
open Go.RowKit Go.Maps
/-- A row of one's own that holds these edges, and what lies behind them. -/
def RowE (w wr : World) (g : Nat) (d : Array Sy.Ed) (rest : List Value) : Prop := Arr 47 w wr g (BEdges.C d.toList ++ rest)
theorem RowE.below {w wr w' : World} {g : Nat} {d : Array Sy.Ed} {rest : List Value} (h : RowE w wr g d rest) (hb : Below wr.heap.size wr w') : RowE w w' g d rest := Arr.below h hb
theorem getb {d : Array Sy.Ed} {j : Nat} (hj : j < d.size) : d.toList[j]? = some d[j]! := by
  rw [Array.getElem?_toList, Array.getElem?_eq_getElem hj, getElem!_pos d j hj]
theorem RowE.at {w wr : World} {g : Nat} {d : Array Sy.Ed} {rest : List Value} (h : RowE w wr g d rest) {j : Nat} {z : Sy.Ed} (hj : d.toList[j]? = some z) : wr.cell? ⟨g, j * 3, none⟩ = some (.int .i64 z.1) ∧ wr.cell? ⟨g, j * 3 + 1, none⟩ = some (.int .i64 z.2.1) ∧ wr.cell? ⟨g, j * 3 + 2, none⟩ = some (.int .i64 z.2.2) := by
  have hl : j < d.toList.length := (List.getElem?_eq_some_iff.1 hj).1
  have hc := BEdges.C_len d.toList
  have h0 := BEdges.C_at d.toList j z hj 0 (by decide)
  have h1 := BEdges.C_at d.toList j z hj 1 (by decide)
  have h2 := BEdges.C_at d.toList j z hj 2 (by decide)
  refine ⟨Arr.cell h ?_, Arr.cell h ?_, Arr.cell h ?_⟩
  · rw [List.getElem?_append_left (by omega)]; exact h0
  · rw [List.getElem?_append_left (by omega)]; exact h1
  · rw [List.getElem?_append_left (by omega)]; exact h2
theorem RowE.cells {w wr : World} {g : Nat} {d : Array Sy.Ed} {rest : List Value} (h : RowE w wr g d rest) {j : Nat} (hj : j < d.size) : wr.cell? ⟨g, j * 3, none⟩ = some (.int .i64 (d[j]!).1) ∧ wr.cell? ⟨g, j * 3 + 1, none⟩ = some (.int .i64 (d[j]!).2.1) ∧ wr.cell? ⟨g, j * 3 + 2, none⟩ = some (.int .i64 (d[j]!).2.2) := h.at (getb hj)
theorem RowE.free {w wr : World} {g : Nat} {d : Array Sy.Ed} {rest : List Value} (h : RowE w wr g d rest) (k : Nat) : wr.frozen? ⟨g, k, none⟩ = false := Arr.free h k
/-- An edge is stored. -/
def st3 (w : World) (g k : Nat) (x : Sy.Ed) : World := ((w.setCell ⟨g, k * 3, none⟩ (.int .i64 x.1)).setCell ⟨g, k * 3 + 1, none⟩ (.int .i64 x.2.1)).setCell ⟨g, k * 3 + 2, none⟩ (.int .i64 x.2.2)
theorem RowE.store {w wr : World} {g : Nat} {d : Array Sy.Ed} {rest : List Value} (h : RowE w wr g d rest) {k : Nat} (hk : k < d.size) (x : Sy.Ed) : RowE w (st3 wr g k x) g (d.setIfInBounds k x) rest := by
  have h1 := ((Arr.set h (k * 3) (.int .i64 x.1)).set (k * 3 + 1) (.int .i64 x.2.1)).set (k * 3 + 2) (.int .i64 x.2.2)
  have hk' : k < d.toList.length := by simpa using hk
  have hc := BEdges.C_len d.toList
  rw [List.set_append_left _ _ (by omega), List.set_append_left _ _ (by rw [List.length_set]; omega), List.set_append_left _ _ (by rw [List.length_set, List.length_set]; omega), ← BEdges.C_set d.toList hk' x] at h1
  unfold RowE st3
  rw [Array.toList_setIfInBounds]
  exact h1
theorem swp_back (d : Array Sy.Ed) (i j : Nat) (hi : i < d.size) (hj : j < d.size) : (d.setIfInBounds j d[i]!).setIfInBounds i d[j]! = Sort.swp d i j := by
  unfold Sort.swp
  by_cases e : i = j
  · subst e; rfl
  · apply Array.ext_getElem?
    intro k
    simp only [Array.getElem?_setIfInBounds, Array.size_setIfInBounds]
    by_cases h1 : i = k
    · subst h1
      have e2 : ¬ j = i := fun h => e h.symm
      simp [e2, hi]
    · by_cases h2 : j = k
      · subst h2; simp [e, hj]
      · simp [h1, h2]
/-- Two edges are exchanged, in either order of the stores. -/
theorem RowE.swap {w wr : World} {g : Nat} {d : Array Sy.Ed} {rest : List Value} (h : RowE w wr g d rest) {i j : Nat} (hi : i < d.size) (hj : j < d.size) : RowE w (st3 (st3 wr g i d[j]!) g j d[i]!) g (Sort.swp d i j) rest :=
  (h.store hi d[j]!).store (by simpa using hj) d[i]!
theorem RowE.swap' {w wr : World} {g : Nat} {d : Array Sy.Ed} {rest : List Value} (h : RowE w wr g d rest) {i j : Nat} (hi : i < d.size) (hj : j < d.size) : RowE w (st3 (st3 wr g j d[i]!) g i d[j]!) g (Sort.swp d i j) rest := by
  rw [← swp_back d i j hi hj]
  exact (h.store hj d[i]!).store (by simpa using hi) d[j]!
/-- The comparison of a view, as a value. -/
def cmpV (f : Nat) : Value := .func (.func 50) #[.func (.func f) #[] #[]] #[]
/-- What it says. -/
def ltV (vw : Sy.Ed → Sy.Ed) (x y : Sy.Ed) : Bool := Sy.lt (vw x) (vw y)
theorem swoV (vw : Sy.Ed → Sy.Ed) : Sort.SWO (ltV vw) where
  irrefl x := Sy.lt_irrefl _
  trans x y z h1 h2 := Sy.lt_trans h1 h2
  ntrans x y z h1 h2 := by
    unfold ltV at *
    cases h : Sy.lt (vw x) (vw z) with
    | false => rfl
    | true =>
      cases h3 : Sy.lt (vw y) (vw x) with
      | true => have := Sy.lt_trans h3 h; rw [h2] at this; cases this
      | false =>
        have e := Sy.eq_of_not h1 h3
        rw [e, h2] at h
        cases h
theorem cmpV_neg (vw : Sy.Ed → Sy.Ed) (x y : Sy.Ed) : (cmpE (vw x) (vw y) < 0) ↔ ltV vw x y = true := by
  unfold ltV
  rw [← cmpE_lt]
  simp
theorem rg_up6 {w2 wa wb : World} {a0 a1 a2 a3 a4 a5 : Addr} {x0 x1 x2 x3 x4 x5 : Value} (hb : Below wa.heap.size wa wb) (h : ((wa.cell? a0 = some x0 ∧ wa.cell? a1 = some x1 ∧ wa.cell? a2 = some x2) ∧ (wa.cell? a3 = some x3 ∧ wa.cell? a4 = some x4 ∧ wa.cell? a5 = some x5)) ∧ Hid (Below w2.heap.size w2 wa)) : ((wb.cell? a0 = some x0 ∧ wb.cell? a1 = some x1 ∧ wb.cell? a2 = some x2) ∧ (wb.cell? a3 = some x3 ∧ wb.cell? a4 = some x4 ∧ wb.cell? a5 = some x5)) ∧ Hid (Below w2.heap.size w2 wb) :=
  have up : ∀ {a : Addr} {x : Value}, wa.cell? a = some x → wb.cell? a = some x := fun c => (hb.cell (World.block_lt_of_cell? wa _ c)).trans c
  ⟨⟨⟨up h.1.1.1, up h.1.1.2.1, up h.1.1.2.2⟩, ⟨up h.1.2.1, up h.1.2.2.1, up h.1.2.2.2⟩⟩, (h.2.out.trans (hb.mono h.2.out.size) : Below w2.heap.size w2 wb)⟩
theorem ins_go (lt : Sy.Ed → Sy.Ed → Bool) (a j : Nat) (d : Array Sy.Ed) (hj : a < j + 1) (hl : lt d[j + 1]! d[j]! = true) : Sort.insInner lt a (j + 1) d = Sort.insInner lt a j (Sort.swp d (j + 1) j) := by
  rw [Sort.insInner, if_pos (by simp [hl, hj])]
theorem ins_stop (lt : Sy.Ed → Sy.Ed → Bool) (a j : Nat) (d : Array Sy.Ed) (hl : lt d[j + 1]! d[j]! = false) : Sort.insInner lt a (j + 1) d = d := by
  rw [Sort.insInner, if_neg (by simp [hl])]
theorem ins_at (lt : Sy.Ed → Sy.Ed → Bool) (a j : Nat) (d : Array Sy.Ed) (hj : ¬ a < j) : Sort.insInner lt a j d = d := by
  cases j with
  | zero => rfl
  | succ j => rw [Sort.insInner, if_neg (by simp; omega)]
theorem ins_next (lt : Sy.Ed → Sy.Ed → Bool) (a b i : Nat) (d : Array Sy.Ed) (h : i < b) : Sort.insOuter lt a b i d = Sort.insOuter lt a b (i + 1) (Sort.insInner lt a i d) := by rw [Sort.insOuter, if_pos h]
theorem ins_end (lt : Sy.Ed → Sy.Ed → Bool) (a b i : Nat) (d : Array Sy.Ed) (h : ¬ i < b) : Sort.insOuter lt a b i d = d := by rw [Sort.insOuter, if_neg h]
theorem RowE.swapped {w wr : World} {g : Nat} {d : Array Sy.Ed} {rest : List Value} (h : RowE w wr g d rest) {i j : Nat} {x y : Sy.Ed} (hi : i < d.size) (hj : j < d.size) (hx : x = d[i]!) (hy : y = d[j]!) : RowE w (st3 (st3 wr g i y) g j x).drew g (Sort.swp d i j) rest := by
  subst hx hy
  exact (h.swap hi hj).below (Below.refl _ _).drew
end Go.Proofs.YtcjeijmphgpecaaDoor
