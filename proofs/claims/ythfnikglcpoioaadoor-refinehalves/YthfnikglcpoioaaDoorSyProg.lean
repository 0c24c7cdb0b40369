/- What the program's functions of chapter 7 answer: the contracts that the laws lean on. -/
import Derived.Test.YthfnikglcpoioaaDoorSyForms
namespace Go.Proofs.YthfnikglcpoioaaDoor
open Go.RowKit Go.Maps
/-- Numbers that are ints. -/
def I64s (zs : List Int) : Prop := ∀ z ∈ zs, (Lit.int .i64 z).wf = true
def PCanon : Prop := ∀ (v : Value) (zs : List Int) (W : World), HasI W v zs → zs.length ≤ 100000 → I64s zs → Calls Tryd.prog 21 #[v] W fun r w' => ∃ u, r = .returned u ∧ OwnI w' W.heap.size u (natI (Sy.canon zs)) ∧ Below W.heap.size W w'
theorem rg_b {w2 W : World} {P : Prop} (h : P ∧ Hid (Below w2.heap.size w2 W)) : Below w2.heap.size w2 W := h.2.out
theorem rg_up4 {w2 wa wb : World} {a0 a1 a2 a3 : Addr} {x0 x1 x2 x3 : Value} (hb : Below wa.heap.size wa wb) (h : (wa.cell? a0 = some x0 ∧ wa.cell? a1 = some x1 ∧ wa.cell? a2 = some x2 ∧ wa.cell? a3 = some x3) ∧ Hid (Below w2.heap.size w2 wa)) : (wb.cell? a0 = some x0 ∧ wb.cell? a1 = some x1 ∧ wb.cell? a2 = some x2 ∧ wb.cell? a3 = some x3) ∧ Hid (Below w2.heap.size w2 wb) :=
  have up : ∀ {a : Addr} {x : Value}, wa.cell? a = some x → wb.cell? a = some x := fun c => (hb.cell (World.block_lt_of_cell? wa _ c)).trans c
  ⟨⟨up h.1.1, up h.1.2.1, up h.1.2.2.1, up h.1.2.2.2⟩, (h.2.out.trans (hb.mono h.2.out.size) : Below w2.heap.size w2 wb)⟩
end Go.Proofs.YthfnikglcpoioaaDoor
