/- The statement RefineAs, out of the contracts. -/
import Derived.Test.YthfnikglcpoioaaDoorRfAsN
import Derived.Test.YthfnikglcpoioaaDoorRfAsNeg
import Derived.Test.YthfnikglcpoioaaDoorRfAsPos
import Derived.Test.YthfnikglcpoioaaDoorRfAsIn
namespace Go.Proofs.YthfnikglcpoioaaDoor
open Go.RowKit Go.Maps
theorem lawAs8 (n x : Int) (e : Nat → Addr) (w : World) (hE : Er 19 w e) (hT : w.cell? ⟨10, 0, none⟩ = some (.iface 86 (.agg #[.pointer (some ⟨20, 26, none⟩)]))) :
    Calls Tryd.prog 5 #[.int .i64 n, .int .i64 x] w fun r w' => r = .returned (.bool true) ∧ Below w.heap.size w w' := by
  by_cases hn : n < 0 ∨ 1000 < n
  · exact lawAs8_n n x e w hE hT hn
  · obtain ⟨k, rfl⟩ : ∃ k : Nat, n = k := ⟨n.toNat, by omega⟩
    have hk : k ≤ 1000 := by omega
    by_cases hx : x < 0 ∨ (k : Int) ≤ x
    · by_cases hx0 : x < 0
      · exact lawAs8_neg k hk x hx0 e w hE hT
      · exact lawAs8_pos k hk x hx0 hx e w hE hT
    · exact lawAs8_in k hk x hx e w hE hT
end Go.Proofs.YthfnikglcpoioaaDoor
