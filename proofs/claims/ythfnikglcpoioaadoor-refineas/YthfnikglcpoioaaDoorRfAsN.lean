/- The statement RefineAs: New refuses. -/
import Derived.Test.YthfnikglcpoioaaDoorRfAs0
namespace Go.Proofs.YthfnikglcpoioaaDoor
open Go.RowKit Go.Maps
attribute [local go_sem ↓] Go.wp_at_zero Go.wp_at_succ
set_option maxRecDepth 100000 in
set_option maxHeartbeats 40000000 in
theorem lawAs8_n (n x : Int) (e : Nat → Addr) (w : World) (hE : Er 19 w e) (hT : w.cell? ⟨10, 0, none⟩ = some (.iface 86 (.agg #[.pointer (some ⟨20, 26, none⟩)]))) (hn : n < 0 ∨ 1000 < n) :
    Calls Tryd.prog 5 #[.int .i64 n, .int .i64 x] w fun r w' => r = .returned (.bool true) ∧ Below w.heap.size w w' := by
  have hR : EnvR w (e 1) (e 3) := ⟨hE.s1 (by decide), hE.s3 (by decide), hT⟩
  have hN := new_bad8 n (e 1) (e 3) w hR hn
  have H : Hid (Er 19 w e) := hE
  have HN : Hid _ := And.intro hN trivial
  clear hN hE hT hR hn
  go_enter Tryd.func5, Tryd.ntmps5
  go_wp2_with (first
    | (go_at_call 7; refine Calls.mono HN.out.1 ?_; rintro r w1 ⟨y, rfl, hC, hb⟩; have HB : Hid _ := And.intro hC hb; obtain ⟨T, v, rfl⟩ := hC.iface; clear hC hb)
    | (go_at_call 6; refine (alive8 w1).mono ?_; rintro r w2 ⟨rfl, hb2⟩; have hcd := code_1 (m := 19) (by decide) _ [refB] 0 0 e w2 (H.out.below (HB.out.2.trans (hb2.mono HB.out.2.size))) (HB.out.1.below hb2); have HC : Hid _ := And.intro hcd (HB.out.2.trans (hb2.mono HB.out.2.size)); clear hcd hb2)
    | (go_at_call 16; refine Calls.mono HC.out.1 ?_; rintro r w3 ⟨rfl, hw3⟩; obtain rfl := hw3.symm; clear hw3))
  go_ret
  exact ⟨rfl, HC.out.2⟩
end Go.Proofs.YthfnikglcpoioaaDoor
