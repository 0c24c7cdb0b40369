/- slices.Sort of a list of numbers that is the call's own. -/
import Derived.Test.YthfnikglcpoioaaDoorBase
import Derived.Test.YthfnikglcpoioaaDoorShelf
import Derived.Sort.OwnSortedInts
namespace Go.Proofs.YthfnikglcpoioaaDoor
open Go.RowKit Go.Maps
/-- slices.Sort of a list of the call's own. -/
theorem sortI_any (w : World) (B g cap : Nat) (zs : List Int) (h : OwnI w B (.slice (some ⟨g, 0, none⟩) zs.length cap) zs) (hn : zs.length ≤ 1000000) :
    Calls Tryd.prog 24 #[.slice (some ⟨g, 0, none⟩) zs.length cap] w fun e w' => e = .returned (.tuple #[]) ∧ OwnI w' B (.slice (some ⟨g, 0, none⟩) zs.length cap) (zs.mergeSort fun x y => decide (x ≤ y)) ∧ w.grownBy w' (some g) := by
  rcases h.2 with ⟨e, _⟩ | ⟨g', cap', cur, e, hg, hb, hc, hm, hs, ht⟩
  · cases e
  injection e with e1 e2 e3
  have e4 := Option.some.inj e1
  injection e4 with e5
  subst e5; subst e3
  rw [Nat.mul_one] at ht
  refine (Tryd.slices_Sort_int g 0 cap zs w (holds_of_blockI hb ht) (t_lt hb) (by omega)).mono ?_
  rintro r w' ⟨rfl, n, os, rfl⟩
  have hl : (zs.mergeSort fun x y => decide (x ≤ y)).length = zs.length := List.length_mergeSort _
  refine ⟨rfl, ?_, grownBy_sortedI _⟩
  have := ownsRow_sortedI (n := n) (os := os) hl hg hb hc hm hs
  unfold OwnI
  rw [hl]
  exact this
theorem sort_perm (zs : List Int) : (zs.mergeSort fun x y => decide (x ≤ y)).Perm zs := List.mergeSort_perm _ _
theorem sort_rise (zs : List Int) : (zs.mergeSort fun x y => decide (x ≤ y)).Pairwise (· ≤ ·) := by
  have h := List.pairwise_mergeSort (le := fun x y : Int => decide (x ≤ y)) (fun a b c h1 h2 => by simp at *; omega) (fun a b => by simp; omega) zs
  exact h.imp fun h => by simpa using h
end Go.Proofs.YthfnikglcpoioaaDoor
