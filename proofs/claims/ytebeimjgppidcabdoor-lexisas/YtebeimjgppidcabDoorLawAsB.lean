/- The statement LexisAs as a call: on any text it returns true, and nothing that was there has turned. -/
import Derived.Test.YtebeimjgppidcabDoorLawAs
namespace Go.Proofs.YtebeimjgppidcabDoor
open Go.RowKit
attribute [local go_sem ↓] Go.wp_at_zero Go.wp_at_succ
theorem fault_cell0 {w : World} {b : Nat} {x y z e : Value} {t : TypeId} (h : w.heap[b]? = some (.cells #[x, y, z, e] t (0, 0))) : w.cell? ⟨b, 0, none⟩ = some x := by simp [World.cell?, h]
theorem fault_cell3 {w : World} {b : Nat} {x y z e : Value} {t : TypeId} (h : w.heap[b]? = some (.cells #[x, y, z, e] t (0, 0))) : w.cell? ⟨b, 3, none⟩ = some e := by simp [World.cell?, h]
theorem lexis_bytes : lexisS.toList = [108, 101, 120, 105, 115] := by
  kernel_rfl
/-- The world in which alive is called: a variable behind all that there was, and the region's draw. -/
theorem as_alloc {w : World} {aL aW : Addr} (h : Errs2 w aL aW) : Errs2 (w.alloc (.cells #[.pointer none] 34 (0, 0))).drew aL aW := h.below (((Below.refl _ _).alloc (Nat.le_refl _) _).drew)
theorem as_alive {w w2 : World} (h : Below (w.alloc (.cells #[.pointer none] 34 (0, 0))).drew.heap.size (w.alloc (.cells #[.pointer none] 34 (0, 0))).drew w2) :
    Below w.heap.size w w2 ∧ w2.heap[w.heap.size]? = some (.cells #[.pointer none] 34 (0, 0)) := by
  have h1 := below_of_drew h
  refine ⟨((Below.refl _ w).alloc (Nat.le_refl _) _).trans (h1.mono (by simp)), ?_⟩
  rw [h1.block w.heap.size (by simp)]
  exact heap_alloc_new w _
theorem as_handle {w w2 : World} {aL aW : Addr} {X : Prop} (h : Errs2 w aL aW) (h2 : Below w.heap.size w w2 ∧ X) : w2.cell? ⟨10, 0, none⟩ = some (.iface 75 (.agg #[.pointer (some ⟨21, 24, none⟩)])) := (h.below h2.1).2.2.2
theorem as_back {w w2 w3 : World} {X : Prop} (h2 : Below w.heap.size w w2 ∧ X) (h3 : Below w.heap.size w2 w3) : Below w.heap.size w w3 := h2.1.trans h3
theorem fault_below {w w3 : World} {b : Nat} {o : Obj} (h : w.heap[b]? = some o) (h3 : Below w.heap.size w w3) : w3.heap[b]? = some o := by rw [h3.block b (lt_of_block h)]; exact h
set_option maxHeartbeats 8000000 in
theorem lawAs_any (s : ByteArray) (aL aW : Addr) (w : World) (hm : s.size ≤ maxLen) (hE : Errs2 w aL aW) :
    Calls Tryd.prog 5 #[.string s] w fun e w' => e = .returned (.bool true) ∧ Below w.heap.size w w' := by
  have HE : Hid (Errs2 w aL aW) := hE
  clear hE
  go_enter Tryd.func5, Tryd.ntmps5
  go_wp2_with fail
  refine (scan_two s aL aW _ hm HE.out).mono ?_
  rintro e w1 ⟨hb1, ⟨v, rfl⟩ | ⟨b, l, c, a, rfl, ha, hB⟩⟩
  · have HB : Hid (Below w.heap.size w w1) := hb1
    clear hb1
    go_wp2_with (go_at_call 7; refine (alive_two aL aW _ (HE.out.below HB.out)).mono ?_; rintro e w2 ⟨rfl, hb2⟩)
    go_ret
    exact ⟨rfl, HB.out.trans (hb2.mono HB.out.size)⟩
  · have HB : Hid (Below w.heap.size w w1) := hb1
    have HF : Hid (w1.heap[b]? = some (.cells #[.string lexisS, .int .i64 l, .int .i64 c, .iface 99 (.pointer (some a))] 38 (0, 0))) := hB
    clear hb1 hB
    have hblt : b < w1.heap.size := lt_of_block HF.out
    have HE1 : Hid (Errs2 w1 aL aW) := HE.out.below HB.out
    obtain ⟨i, hi, hcmp⟩ := Option.map_eq_some_iff.1 Tryd.isComp
    obtain ⟨j, hj, hjs⟩ := Option.map_eq_some_iff.1 Tryd.isSize
    have hjz : j.size ≠ 0 := by rw [hjs]; decide
    have hlx : lexisS.toList = [108, 101, 120, 105, 115] := lexis_bytes
    rcases ha with rfl | rfl
    · go_wp2_with fail
      go_region_law
        ((first
          | (go_simp; go_at_call 7; refine (alive_two a aW _ (as_alloc HE1.out)).mono ?_; rintro r2 w2 ⟨rfl, hb2⟩; have H2 : Hid _ := as_alive hb2; clear hb2)
          | (go_simp; go_at_call 12; refine (as_fact ⟨b, 0, none⟩ w1.heap.size w2 (as_handle HE1.out H2.out) H2.out.2).mono ?_; rintro r3 w3 ⟨rfl, hc, hk, hb3⟩; have H3 := as_back H2.out hb3; have HE3 := HE1.out.below H3; have hF3 := fault_below HF.out H3; have c0 := fault_cell0 hF3; have c3 := fault_cell3 hF3; obtain ⟨⟨gL, cL, tL, bL⟩, ⟨gW, cW, tW, bW⟩, hne, -⟩ := HE3; have e1 := run_eql_iface_ptr_same (P := Tryd.prog) w3 a Tryd.underlying24 Tryd.underlying99 hi hcmp hj; have e2 := run_eql_iface_ptr_other (P := Tryd.prog) w3 Tryd.underlying24 Tryd.underlying99 hi hcmp hj hjz (fun h => hne h.symm) bL bW; have HB3 : Hid _ := H3; clear H3 hF3 hk hb3 bL bW)))
      all_goals go_wp2
      all_goals go_ret
      all_goals exact ⟨rfl, HB.out.trans (HB3.out.mono HB.out.size)⟩
    · go_wp2_with fail
      go_region_law
        ((first
          | (go_simp; go_at_call 7; refine (alive_two aL a _ (as_alloc HE1.out)).mono ?_; rintro r2 w2 ⟨rfl, hb2⟩; have H2 : Hid _ := as_alive hb2; clear hb2)
          | (go_simp; go_at_call 12; refine (as_fact ⟨b, 0, none⟩ w1.heap.size w2 (as_handle HE1.out H2.out) H2.out.2).mono ?_; rintro r3 w3 ⟨rfl, hc, hk, hb3⟩; have H3 := as_back H2.out hb3; have HE3 := HE1.out.below H3; have hF3 := fault_below HF.out H3; have c0 := fault_cell0 hF3; have c3 := fault_cell3 hF3; obtain ⟨⟨gL, cL, tL, bL⟩, ⟨gW, cW, tW, bW⟩, hne, -⟩ := HE3; have e1 := run_eql_iface_ptr_same (P := Tryd.prog) w3 a Tryd.underlying24 Tryd.underlying99 hi hcmp hj; have HB3 : Hid _ := H3; clear H3 hF3 hk hb3 bL bW)))
      all_goals go_wp2
      all_goals go_ret
      all_goals exact ⟨rfl, HB.out.trans (HB3.out.mono HB.out.size)⟩
end Go.Proofs.YtebeimjgppidcabDoor
