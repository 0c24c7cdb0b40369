/- The statement RefineAs: an element that is too great. -/
import Derived.Test.YthfnikglcpoioaaDoorRfAs0
namespace Go.Proofs.YthfnikglcpoioaaDoor
open Go.RowKit Go.Maps
attribute [local go_sem ↓] Go.wp_at_zero Go.wp_at_succ
set_option maxRecDepth 100000 in
set_option maxHeartbeats 40000000 in
theorem lawAs8_pos (k : Nat) (hk : k ≤ 1000) (x : Int) (hx0 : ¬ x < 0) (hx : x < 0 ∨ (k : Int) ≤ x) (e : Nat → Addr) (w : World) (hE : Er 19 w e) (hT : w.cell? ⟨10, 0, none⟩ = some (.iface 86 (.agg #[.pointer (some ⟨20, 26, none⟩)]))) :
    Calls Tryd.prog 5 #[.int .i64 k, .int .i64 x] w fun r w' => r = .returned (.bool true) ∧ Below w.heap.size w w' := by
  have hR : EnvR w (e 1) (e 3) := ⟨hE.s1 (by decide), hE.s3 (by decide), hT⟩
  have hN := new_part k hk w
  have H : Hid (EnvR w (e 1) (e 3)) := hR
  have HN : Hid _ := And.intro hN trivial
  clear hN hE hT hR
  go_enter Tryd.func5, Tryd.ntmps5
  go_wp2_with fail
  refine Calls.mono HN.out.1 ?_
  rintro r w1 ⟨g, c, rfl, hP, hL⟩
  have hb1 := hP.bl
  have hB := block_bad g c (Pst.new k) x (e 1) (e 3) w w1 hP hL (H.out.below hb1) hx
  have HB : Hid _ := And.intro hB hb1
  have hor : (decide (x < 0) || decide ((k : Int) ≤ x)) = true := by simpa using hx
  clear hB hb1 hP hL HN
  go_wp2_with (go_at_call 14; refine Calls.mono HB.out.1 ?_; rintro r w2 ⟨y, rfl, hC, hb2⟩; obtain ⟨fb, u, rfl, hF, rfl⟩ := hC; have HF : Hid _ := And.intro hF (HB.out.2.trans (hb2.mono HB.out.2.size)); clear hF hb2)
  have hbA : Below w2.heap.size w2 (w2.alloc (.cells #[.pointer none] 46)) := (Below.refl _ _).alloc (Nat.le_refl _) _
  have hE3 := H.out.below (HF.out.2.trans (hbA.mono HF.out.2.size))
  refine Calls.mono (as_fact8 ⟨fb, 0, none⟩ w2.heap.size _ hE3.et (heap_alloc_new _ _)) ?_
  rintro r w4 ⟨rfl, hc4, hb4⟩
  have hbw := (hbA.mono (Nat.le_refl _)).trans hb4
  have hF4 := (hbw.block fb (t_lt HF.out.1)).trans HF.out.1
  have hE4 := H.out.below (HF.out.2.trans (hbw.mono HF.out.2.size))
  obtain ⟨cf0, _, _, cf3⟩ := fault_cells hF4
  have cg := hE4.idx.1
  have HW : Hid (Below w.heap.size w w4) := HF.out.2.trans (hbw.mono HF.out.2.size)
  clear hbA hE3 hb4 hbw hF4 hE4 HF HB
  obtain ⟨i, hi, hcmp⟩ := Option.map_eq_some_iff.1 Tryd.isComp
  obtain ⟨j, hj, hjs⟩ := Option.map_eq_some_iff.1 Tryd.isSize
  have hlx : refB.toList = [114, 101, 102, 105, 110, 101] := ref_bytes
  have e1 := fun W => run_eql_iface_ptr_same (P := Tryd.prog) W (e 3) Tryd.underlying26 Tryd.underlying123 hi hcmp hj
  have hA8 := fun W => alive8 W
  have HA : Hid (∀ W : World, Calls Tryd.prog 6 #[] W fun r w' => r = .returned (.bool true) ∧ Below W.heap.size W w') := hA8
  clear hA8 hi hcmp hj hjs
  have x1 : decide (x < 0) = false := decide_eq_false (by omega)
  have x3 : (k : Int) ≤ x := by omega
  have x2 : decide ((k : Int) ≤ x) = true := decide_eq_true x3
  clear hx hor
  go_wp2_with fail
  go_region_held3 (fun w' => (w'.cell? ⟨w2.heap.size, 0, none⟩ = some (.pointer (some ⟨fb, 0, none⟩)) ∧ w'.cell? ⟨fb, 0, none⟩ = some (.string refB) ∧ w'.cell? ⟨fb, 3, none⟩ = some (.iface 123 (.pointer (some (e 3)))) ∧ w'.cell? ⟨0, 0, none⟩ = some (.iface 123 (.pointer (some (e 3))))) ∧ Hid (Below w4.heap.size w4 w')) (first | exact rgu4 hb5 (by assumption) | exact ⟨⟨hc4, cf0, cf3, cg⟩, ((Below.refl _ _).drew : Below w4.heap.size w4 w4.drew)⟩ | go_keep)
    ((first
      | (go_at_call 6; refine Calls.mono (HA.out _) ?_; rintro r5 w5 ⟨rfl, hb5⟩)
      | fail))
  have hb45 : Below w4.heap.size w4 w5 := rgb3 (by assumption)
  have HZ : Hid (Below w.heap.size w w5) := HW.out.trans (hb45.mono HW.out.size)
  go_wp2_with fail
  go_ret
  exact ⟨rfl, HZ.out⟩
end Go.Proofs.YthfnikglcpoioaaDoor
