/- Small facts that the statements on words and scans share: alive, a block that stands, the document's Bad, the codes of numbers. -/
import Derived.Test.YthcboklkejlifaaGreatDoorTold
import Derived.Test.YthcboklkejlifaaGreatDoorLong
namespace Go.Proofs.YthcboklkejlifaaGreatDoor
open Go.RowKit
theorem alive_errs (aA aL aI aW : Addr) (w : World) (hE : Errs w aA aL aI aW) : Calls Tryz.prog 6 #[] w fun e w' => e = .returned (.bool true) ∧ Below w.heap.size w w' :=
  alive_any _ _ _ _ w hE.2.1.1 hE.2.2.2.1.1
theorem keep_block {w w1 : World} {b : Nat} {o : Obj} (h : w.heap[b]? = some o) (hb : Below w.heap.size w w1) : w1.heap[b]? = some o := by rw [hb.block b (lt_of_block h)]; exact h
theorem bad_any (k : Int) (w : World) : Calls Tryz.prog 23 #[.string ⟨#[108, 101, 120, 105, 115]⟩, .int .i64 k] w fun e w' => e = .returned (.agg #[.int .i64 k, .int .i64 0, .int .i64 0, .string lexisB]) ∧ w' = w.alloc (.cells #[.int .i64 k, .int .i64 0, .int .i64 0, .string lexisB] 44) := by
  have zs : (⟨#[108, 101, 120, 105, 115]⟩ ++ ⟨#[32]⟩ : ByteArray) = lexisB := by decide
  go_enter Tryz.func23, Tryz.ntmps23
  go_wp2
  exact bodyPost_ret (v := .agg #[.int .i64 k, .int .i64 0, .int .i64 0, .string lexisB]) (by simp [results, Tryz.results23, go_sem]) rfl ⟨rfl, rfl⟩
theorem two_new {w w' w8 : World} {b : Nat} {o x y : Obj} {aA aL aI aW : Addr} (hE : Errs w' aA aL aI aW) (hb : Below w.heap.size w w') (hB : w'.heap[b]? = some o) (h8 : w8 = (w'.alloc x).alloc y) :
    Errs w8 aA aL aI aW ∧ Below w.heap.size w w8 ∧ w8.heap[b]? = some o ∧ w8.heap[w'.heap.size]? = some x := by
  have h1 : Below w'.heap.size w' w8 := by rw [h8]; exact ((Below.refl _ _).alloc (Nat.le_refl _) _).alloc (by simp) _
  refine ⟨hE.below h1, hb.trans (h1.mono hb.size), keep_block hB h1, ?_⟩
  rw [h8, Below.heap_alloc _ _ _ (by simp)]
  exact heap_alloc_new w' x
theorem num_cases (l : List UInt8) : (∃ n, Lx.numR l = (n, 0)) ∨ Lx.numR l = (0, 4) ∨ Lx.numR l = (0, 2) := by
  unfold Lx.numR
  split
  · exact .inr (.inl rfl)
  · split
    · exact .inl ⟨_, rfl⟩
    · exact .inr (.inr rfl)
end Go.Proofs.YthcboklkejlifaaGreatDoor
