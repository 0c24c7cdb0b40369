/- told of chapter 2: an error that package act tells is told as the document's. (Written by mktold2.py.) -/
import Derived.Test.YthcboklkejlifaaGreatDoorToldAct
import Derived.Test.YthcboklkejlifaaGreatDoorPart3
namespace Go.Proofs.YthcboklkejlifaaGreatDoor
open Go.RowKit Go.Maps
/-- The first nine of api's errors, by their codes. -/
abbrev Nn (w : World) (e : Nat → Addr) : Prop := Nine w (e 1) (e 2) (e 3) (e 4) (e 5) (e 6) (e 7) (e 8) (e 9)
theorem nn_ne {w : World} {e : Nat → Addr} (h : Nn w e) {i j : Nat} (hi : 1 ≤ i) (hij : i < j) (hj : j ≤ 9) : e j ≠ e i := fun he => by
  have hp := List.pairwise_iff_getElem.1 h.ne (i - 1) (j - 1) (by simp; omega) (by simp; omega) (by omega)
  have hg : ∀ k, 1 ≤ k → (hk : k ≤ 9) → [e 1, e 2, e 3, e 4, e 5, e 6, e 7, e 8, e 9][k - 1]'(by simp; omega) = e k := fun k h1 h9 => by
    have : k = 1 ∨ k = 2 ∨ k = 3 ∨ k = 4 ∨ k = 5 ∨ k = 6 ∨ k = 7 ∨ k = 8 ∨ k = 9 := by omega
    rcases this with rfl | rfl | rfl | rfl | rfl | rfl | rfl | rfl | rfl <;> rfl
  rw [hg i hi (by omega), hg j (by omega) hj] at hp
  exact hp he.symm
theorem bad_act2 (k : Int) (w : World) : Calls Tryz.prog 23 #[.string ⟨#[97, 99, 116]⟩, .int .i64 k] w fun e w' => e = .returned (.agg #[.int .i64 k, .int .i64 0, .int .i64 0, .string actB]) ∧ Below w.heap.size w w' := by
  have zs : (⟨#[97, 99, 116]⟩ ++ ⟨#[32]⟩ : ByteArray) = actB := by decide
  go_enter Tryz.func23, Tryz.ntmps23
  go_wp2
  exact bodyPost_ret (v := .agg #[.int .i64 k, .int .i64 0, .int .i64 0, .string actB]) (by simp [results, Tryz.results23, go_sem]) rfl ⟨rfl, (Below.refl _ _).alloc (Nat.le_refl _) _⟩
theorem told2_nil (w : World) : Calls Tryz.prog 114 #[.nilIface, .int .i64 0] w fun r w' => r = .returned (.bool true) ∧ w' = w := by
  go_enter Tryz.func114, Tryz.ntmps114
  go_wp2
  go_ret
  exact ⟨rfl, rfl⟩
set_option maxHeartbeats 1000000 in
theorem code_f2 (pb : Nat) (e : Nat → Addr) (w : World) (hE : Nn w e) (h1 : w.cell? ⟨pb, 3, none⟩ = some (.iface 194 (.pointer (some (e 2))))) :
    Calls Tryz.prog 29 #[.iface 58 (.pointer (some ⟨pb, 0, none⟩))] w fun r w' => r = .returned (.int .i64 2) ∧ w' = w := by
  have HE : Hid (Nn w e) := hE
  obtain ⟨gK, cK, tK, bK⟩ := hE.L
  obtain ⟨g1, c1, t1, b1⟩ := hE.A
  clear hE
  go_enter Tryz.func29, Tryz.ntmps29
  go_wp2_with fail
  refine (is_fault_other pb (e 1) (e 2) cK c1 tK t1 _ h1 (nn_ne HE.out (by decide) (by decide) (by decide)) bK b1).mono ?_
  rintro r w' ⟨rfl, hw⟩; obtain rfl := hw.symm
  go_wp2_with fail
  refine (is_fault_same pb (e 2) _ h1).mono ?_
  rintro r w' ⟨rfl, hw⟩; obtain rfl := hw.symm
  go_wp2_with fail
  go_ret
  exact ⟨rfl, rfl⟩
set_option maxHeartbeats 1000000 in
theorem code_b2 (e : Nat → Addr) (w : World) (hE : Nn w e) :
    Calls Tryz.prog 29 #[.iface 194 (.pointer (some (e 2)))] w fun r w' => r = .returned (.int .i64 2) ∧ w' = w := by
  have HE : Hid (Nn w e) := hE
  obtain ⟨gK, cK, tK, bK⟩ := hE.L
  obtain ⟨g1, c1, t1, b1⟩ := hE.A
  clear hE
  go_enter Tryz.func29, Tryz.ntmps29
  go_wp2_with fail
  refine (is_bare_other (e 1) (e 2) cK c1 tK t1 _ (nn_ne HE.out (by decide) (by decide) (by decide)) bK b1).mono ?_
  rintro r w' ⟨rfl, hw⟩; obtain rfl := hw.symm
  go_wp2_with fail
  refine (is_bare_same (e 2) _).mono ?_
  rintro r w' ⟨rfl, hw⟩; obtain rfl := hw.symm
  go_wp2_with fail
  go_ret
  exact ⟨rfl, rfl⟩
set_option maxRecDepth 100000 in
theorem told2_2 (b : Nat) (e : Nat → Addr) (w : World) (hE : Nn w e) (hF : ActFault w b (errV (e 2))) :
    Calls Tryz.prog 114 #[faultV b, .int .i64 2] w fun r w' => r = .returned (.bool true) ∧ Below w.heap.size w w' := by
  unfold faultV
  have HE : Hid _ := And.intro hE hF
  clear hE hF
  go_enter Tryz.func114, Tryz.ntmps114
  go_wp2_with fail
  refine (bad_act2 2 w).mono ?_
  rintro r w1 ⟨rfl, hb1⟩
  have hT := told_act b 2 (e 2) (fun W => Nn W e) (fun W W' h hb => h.below hb) (by decide) (fun W h h3 => code_f2 b e W h h3) (fun W h => code_b2 e W h) w1 (HE.out.1.below hb1) ((hb1.block _ (tab_lt HE.out.2)).trans HE.out.2)
  have HT : Hid _ := And.intro hT hb1
  clear hT hb1
  go_wp2_with fail
  refine HT.out.1.mono ?_
  rintro r w2 ⟨rfl, hb2⟩
  have HB : Hid _ := HT.out.2.trans (hb2.mono HT.out.2.size)
  clear hb2
  go_wp2_with fail
  go_ret
  exact ⟨rfl, HB.out⟩
set_option maxHeartbeats 1000000 in
theorem code_f3 (pb : Nat) (e : Nat → Addr) (w : World) (hE : Nn w e) (h1 : w.cell? ⟨pb, 3, none⟩ = some (.iface 194 (.pointer (some (e 3))))) :
    Calls Tryz.prog 29 #[.iface 58 (.pointer (some ⟨pb, 0, none⟩))] w fun r w' => r = .returned (.int .i64 3) ∧ w' = w := by
  have HE : Hid (Nn w e) := hE
  obtain ⟨gK, cK, tK, bK⟩ := hE.I
  obtain ⟨g1, c1, t1, b1⟩ := hE.A
  obtain ⟨g2, c2, t2, b2⟩ := hE.L
  clear hE
  go_enter Tryz.func29, Tryz.ntmps29
  go_wp2_with fail
  refine (is_fault_other pb (e 1) (e 3) cK c1 tK t1 _ h1 (nn_ne HE.out (by decide) (by decide) (by decide)) bK b1).mono ?_
  rintro r w' ⟨rfl, hw⟩; obtain rfl := hw.symm
  go_wp2_with fail
  refine (is_fault_other pb (e 2) (e 3) cK c2 tK t2 _ h1 (nn_ne HE.out (by decide) (by decide) (by decide)) bK b2).mono ?_
  rintro r w' ⟨rfl, hw⟩; obtain rfl := hw.symm
  go_wp2_with fail
  refine (is_fault_same pb (e 3) _ h1).mono ?_
  rintro r w' ⟨rfl, hw⟩; obtain rfl := hw.symm
  go_wp2_with fail
  go_ret
  exact ⟨rfl, rfl⟩
set_option maxHeartbeats 1000000 in
theorem code_b3 (e : Nat → Addr) (w : World) (hE : Nn w e) :
    Calls Tryz.prog 29 #[.iface 194 (.pointer (some (e 3)))] w fun r w' => r = .returned (.int .i64 3) ∧ w' = w := by
  have HE : Hid (Nn w e) := hE
  obtain ⟨gK, cK, tK, bK⟩ := hE.I
  obtain ⟨g1, c1, t1, b1⟩ := hE.A
  obtain ⟨g2, c2, t2, b2⟩ := hE.L
  clear hE
  go_enter Tryz.func29, Tryz.ntmps29
  go_wp2_with fail
  refine (is_bare_other (e 1) (e 3) cK c1 tK t1 _ (nn_ne HE.out (by decide) (by decide) (by decide)) bK b1).mono ?_
  rintro r w' ⟨rfl, hw⟩; obtain rfl := hw.symm
  go_wp2_with fail
  refine (is_bare_other (e 2) (e 3) cK c2 tK t2 _ (nn_ne HE.out (by decide) (by decide) (by decide)) bK b2).mono ?_
  rintro r w' ⟨rfl, hw⟩; obtain rfl := hw.symm
  go_wp2_with fail
  refine (is_bare_same (e 3) _).mono ?_
  rintro r w' ⟨rfl, hw⟩; obtain rfl := hw.symm
  go_wp2_with fail
  go_ret
  exact ⟨rfl, rfl⟩
set_option maxRecDepth 100000 in
theorem told2_3 (b : Nat) (e : Nat → Addr) (w : World) (hE : Nn w e) (hF : ActFault w b (errV (e 3))) :
    Calls Tryz.prog 114 #[faultV b, .int .i64 3] w fun r w' => r = .returned (.bool true) ∧ Below w.heap.size w w' := by
  unfold faultV
  have HE : Hid _ := And.intro hE hF
  clear hE hF
  go_enter Tryz.func114, Tryz.ntmps114
  go_wp2_with fail
  refine (bad_act2 3 w).mono ?_
  rintro r w1 ⟨rfl, hb1⟩
  have hT := told_act b 3 (e 3) (fun W => Nn W e) (fun W W' h hb => h.below hb) (by decide) (fun W h h3 => code_f3 b e W h h3) (fun W h => code_b3 e W h) w1 (HE.out.1.below hb1) ((hb1.block _ (tab_lt HE.out.2)).trans HE.out.2)
  have HT : Hid _ := And.intro hT hb1
  clear hT hb1
  go_wp2_with fail
  refine HT.out.1.mono ?_
  rintro r w2 ⟨rfl, hb2⟩
  have HB : Hid _ := HT.out.2.trans (hb2.mono HT.out.2.size)
  clear hb2
  go_wp2_with fail
  go_ret
  exact ⟨rfl, HB.out⟩
set_option maxHeartbeats 1000000 in
theorem code_f4 (pb : Nat) (e : Nat → Addr) (w : World) (hE : Nn w e) (h1 : w.cell? ⟨pb, 3, none⟩ = some (.iface 194 (.pointer (some (e 4))))) :
    Calls Tryz.prog 29 #[.iface 58 (.pointer (some ⟨pb, 0, none⟩))] w fun r w' => r = .returned (.int .i64 4) ∧ w' = w := by
  have HE : Hid (Nn w e) := hE
  obtain ⟨gK, cK, tK, bK⟩ := hE.W
  obtain ⟨g1, c1, t1, b1⟩ := hE.A
  obtain ⟨g2, c2, t2, b2⟩ := hE.L
  obtain ⟨g3, c3, t3, b3⟩ := hE.I
  clear hE
  go_enter Tryz.func29, Tryz.ntmps29
  go_wp2_with fail
  refine (is_fault_other pb (e 1) (e 4) cK c1 tK t1 _ h1 (nn_ne HE.out (by decide) (by decide) (by decide)) bK b1).mono ?_
  rintro r w' ⟨rfl, hw⟩; obtain rfl := hw.symm
  go_wp2_with fail
  refine (is_fault_other pb (e 2) (e 4) cK c2 tK t2 _ h1 (nn_ne HE.out (by decide) (by decide) (by decide)) bK b2).mono ?_
  rintro r w' ⟨rfl, hw⟩; obtain rfl := hw.symm
  go_wp2_with fail
  refine (is_fault_other pb (e 3) (e 4) cK c3 tK t3 _ h1 (nn_ne HE.out (by decide) (by decide) (by decide)) bK b3).mono ?_
  rintro r w' ⟨rfl, hw⟩; obtain rfl := hw.symm
  go_wp2_with fail
  refine (is_fault_same pb (e 4) _ h1).mono ?_
  rintro r w' ⟨rfl, hw⟩; obtain rfl := hw.symm
  go_wp2_with fail
  go_ret
  exact ⟨rfl, rfl⟩
set_option maxHeartbeats 1000000 in
theorem code_b4 (e : Nat → Addr) (w : World) (hE : Nn w e) :
    Calls Tryz.prog 29 #[.iface 194 (.pointer (some (e 4)))] w fun r w' => r = .returned (.int .i64 4) ∧ w' = w := by
  have HE : Hid (Nn w e) := hE
  obtain ⟨gK, cK, tK, bK⟩ := hE.W
  obtain ⟨g1, c1, t1, b1⟩ := hE.A
  obtain ⟨g2, c2, t2, b2⟩ := hE.L
  obtain ⟨g3, c3, t3, b3⟩ := hE.I
  clear hE
  go_enter Tryz.func29, Tryz.ntmps29
  go_wp2_with fail
  refine (is_bare_other (e 1) (e 4) cK c1 tK t1 _ (nn_ne HE.out (by decide) (by decide) (by decide)) bK b1).mono ?_
  rintro r w' ⟨rfl, hw⟩; obtain rfl := hw.symm
  go_wp2_with fail
  refine (is_bare_other (e 2) (e 4) cK c2 tK t2 _ (nn_ne HE.out (by decide) (by decide) (by decide)) bK b2).mono ?_
  rintro r w' ⟨rfl, hw⟩; obtain rfl := hw.symm
  go_wp2_with fail
  refine (is_bare_other (e 3) (e 4) cK c3 tK t3 _ (nn_ne HE.out (by decide) (by decide) (by decide)) bK b3).mono ?_
  rintro r w' ⟨rfl, hw⟩; obtain rfl := hw.symm
  go_wp2_with fail
  refine (is_bare_same (e 4) _).mono ?_
  rintro r w' ⟨rfl, hw⟩; obtain rfl := hw.symm
  go_wp2_with fail
  go_ret
  exact ⟨rfl, rfl⟩
set_option maxRecDepth 100000 in
theorem told2_4 (b : Nat) (e : Nat → Addr) (w : World) (hE : Nn w e) (hF : ActFault w b (errV (e 4))) :
    Calls Tryz.prog 114 #[faultV b, .int .i64 4] w fun r w' => r = .returned (.bool true) ∧ Below w.heap.size w w' := by
  unfold faultV
  have HE : Hid _ := And.intro hE hF
  clear hE hF
  go_enter Tryz.func114, Tryz.ntmps114
  go_wp2_with fail
  refine (bad_act2 4 w).mono ?_
  rintro r w1 ⟨rfl, hb1⟩
  have hT := told_act b 4 (e 4) (fun W => Nn W e) (fun W W' h hb => h.below hb) (by decide) (fun W h h3 => code_f4 b e W h h3) (fun W h => code_b4 e W h) w1 (HE.out.1.below hb1) ((hb1.block _ (tab_lt HE.out.2)).trans HE.out.2)
  have HT : Hid _ := And.intro hT hb1
  clear hT hb1
  go_wp2_with fail
  refine HT.out.1.mono ?_
  rintro r w2 ⟨rfl, hb2⟩
  have HB : Hid _ := HT.out.2.trans (hb2.mono HT.out.2.size)
  clear hb2
  go_wp2_with fail
  go_ret
  exact ⟨rfl, HB.out⟩
set_option maxHeartbeats 1000000 in
theorem code_f8 (pb : Nat) (e : Nat → Addr) (w : World) (hE : Nn w e) (h1 : w.cell? ⟨pb, 3, none⟩ = some (.iface 194 (.pointer (some (e 8))))) :
    Calls Tryz.prog 29 #[.iface 58 (.pointer (some ⟨pb, 0, none⟩))] w fun r w' => r = .returned (.int .i64 8) ∧ w' = w := by
  have HE : Hid (Nn w e) := hE
  obtain ⟨gK, cK, tK, bK⟩ := hE.U
  obtain ⟨g1, c1, t1, b1⟩ := hE.A
  obtain ⟨g2, c2, t2, b2⟩ := hE.L
  obtain ⟨g3, c3, t3, b3⟩ := hE.I
  obtain ⟨g4, c4, t4, b4⟩ := hE.W
  obtain ⟨g5, c5, t5, b5⟩ := hE.Y
  obtain ⟨g6, c6, t6, b6⟩ := hE.D
  obtain ⟨g7, c7, t7, b7⟩ := hE.T
  clear hE
  go_enter Tryz.func29, Tryz.ntmps29
  go_wp2_with fail
  refine (is_fault_other pb (e 1) (e 8) cK c1 tK t1 _ h1 (nn_ne HE.out (by decide) (by decide) (by decide)) bK b1).mono ?_
  rintro r w' ⟨rfl, hw⟩; obtain rfl := hw.symm
  go_wp2_with fail
  refine (is_fault_other pb (e 2) (e 8) cK c2 tK t2 _ h1 (nn_ne HE.out (by decide) (by decide) (by decide)) bK b2).mono ?_
  rintro r w' ⟨rfl, hw⟩; obtain rfl := hw.symm
  go_wp2_with fail
  refine (is_fault_other pb (e 3) (e 8) cK c3 tK t3 _ h1 (nn_ne HE.out (by decide) (by decide) (by decide)) bK b3).mono ?_
  rintro r w' ⟨rfl, hw⟩; obtain rfl := hw.symm
  go_wp2_with fail
  refine (is_fault_other pb (e 4) (e 8) cK c4 tK t4 _ h1 (nn_ne HE.out (by decide) (by decide) (by decide)) bK b4).mono ?_
  rintro r w' ⟨rfl, hw⟩; obtain rfl := hw.symm
  go_wp2_with fail
  refine (is_fault_other pb (e 5) (e 8) cK c5 tK t5 _ h1 (nn_ne HE.out (by decide) (by decide) (by decide)) bK b5).mono ?_
  rintro r w' ⟨rfl, hw⟩; obtain rfl := hw.symm
  go_wp2_with fail
  refine (is_fault_other pb (e 6) (e 8) cK c6 tK t6 _ h1 (nn_ne HE.out (by decide) (by decide) (by decide)) bK b6).mono ?_
  rintro r w' ⟨rfl, hw⟩; obtain rfl := hw.symm
  go_wp2_with fail
  refine (is_fault_other pb (e 7) (e 8) cK c7 tK t7 _ h1 (nn_ne HE.out (by decide) (by decide) (by decide)) bK b7).mono ?_
  rintro r w' ⟨rfl, hw⟩; obtain rfl := hw.symm
  go_wp2_with fail
  refine (is_fault_same pb (e 8) _ h1).mono ?_
  rintro r w' ⟨rfl, hw⟩; obtain rfl := hw.symm
  go_wp2_with fail
  go_ret
  exact ⟨rfl, rfl⟩
set_option maxHeartbeats 1000000 in
theorem code_b8 (e : Nat → Addr) (w : World) (hE : Nn w e) :
    Calls Tryz.prog 29 #[.iface 194 (.pointer (some (e 8)))] w fun r w' => r = .returned (.int .i64 8) ∧ w' = w := by
  have HE : Hid (Nn w e) := hE
  obtain ⟨gK, cK, tK, bK⟩ := hE.U
  obtain ⟨g1, c1, t1, b1⟩ := hE.A
  obtain ⟨g2, c2, t2, b2⟩ := hE.L
  obtain ⟨g3, c3, t3, b3⟩ := hE.I
  obtain ⟨g4, c4, t4, b4⟩ := hE.W
  obtain ⟨g5, c5, t5, b5⟩ := hE.Y
  obtain ⟨g6, c6, t6, b6⟩ := hE.D
  obtain ⟨g7, c7, t7, b7⟩ := hE.T
  clear hE
  go_enter Tryz.func29, Tryz.ntmps29
  go_wp2_with fail
  refine (is_bare_other (e 1) (e 8) cK c1 tK t1 _ (nn_ne HE.out (by decide) (by decide) (by decide)) bK b1).mono ?_
  rintro r w' ⟨rfl, hw⟩; obtain rfl := hw.symm
  go_wp2_with fail
  refine (is_bare_other (e 2) (e 8) cK c2 tK t2 _ (nn_ne HE.out (by decide) (by decide) (by decide)) bK b2).mono ?_
  rintro r w' ⟨rfl, hw⟩; obtain rfl := hw.symm
  go_wp2_with fail
  refine (is_bare_other (e 3) (e 8) cK c3 tK t3 _ (nn_ne HE.out (by decide) (by decide) (by decide)) bK b3).mono ?_
  rintro r w' ⟨rfl, hw⟩; obtain rfl := hw.symm
  go_wp2_with fail
  refine (is_bare_other (e 4) (e 8) cK c4 tK t4 _ (nn_ne HE.out (by decide) (by decide) (by decide)) bK b4).mono ?_
  rintro r w' ⟨rfl, hw⟩; obtain rfl := hw.symm
  go_wp2_with fail
  refine (is_bare_other (e 5) (e 8) cK c5 tK t5 _ (nn_ne HE.out (by decide) (by decide) (by decide)) bK b5).mono ?_
  rintro r w' ⟨rfl, hw⟩; obtain rfl := hw.symm
  go_wp2_with fail
  refine (is_bare_other (e 6) (e 8) cK c6 tK t6 _ (nn_ne HE.out (by decide) (by decide) (by decide)) bK b6).mono ?_
  rintro r w' ⟨rfl, hw⟩; obtain rfl := hw.symm
  go_wp2_with fail
  refine (is_bare_other (e 7) (e 8) cK c7 tK t7 _ (nn_ne HE.out (by decide) (by decide) (by decide)) bK b7).mono ?_
  rintro r w' ⟨rfl, hw⟩; obtain rfl := hw.symm
  go_wp2_with fail
  refine (is_bare_same (e 8) _).mono ?_
  rintro r w' ⟨rfl, hw⟩; obtain rfl := hw.symm
  go_wp2_with fail
  go_ret
  exact ⟨rfl, rfl⟩
set_option maxRecDepth 100000 in
theorem told2_8 (b : Nat) (e : Nat → Addr) (w : World) (hE : Nn w e) (hF : ActFault w b (errV (e 8))) :
    Calls Tryz.prog 114 #[faultV b, .int .i64 8] w fun r w' => r = .returned (.bool true) ∧ Below w.heap.size w w' := by
  unfold faultV
  have HE : Hid _ := And.intro hE hF
  clear hE hF
  go_enter Tryz.func114, Tryz.ntmps114
  go_wp2_with fail
  refine (bad_act2 8 w).mono ?_
  rintro r w1 ⟨rfl, hb1⟩
  have hT := told_act b 8 (e 8) (fun W => Nn W e) (fun W W' h hb => h.below hb) (by decide) (fun W h h3 => code_f8 b e W h h3) (fun W h => code_b8 e W h) w1 (HE.out.1.below hb1) ((hb1.block _ (tab_lt HE.out.2)).trans HE.out.2)
  have HT : Hid _ := And.intro hT hb1
  clear hT hb1
  go_wp2_with fail
  refine HT.out.1.mono ?_
  rintro r w2 ⟨rfl, hb2⟩
  have HB : Hid _ := HT.out.2.trans (hb2.mono HT.out.2.size)
  clear hb2
  go_wp2_with fail
  go_ret
  exact ⟨rfl, HB.out⟩
set_option maxHeartbeats 1000000 in
theorem code_f9 (pb : Nat) (e : Nat → Addr) (w : World) (hE : Nn w e) (h1 : w.cell? ⟨pb, 3, none⟩ = some (.iface 194 (.pointer (some (e 9))))) :
    Calls Tryz.prog 29 #[.iface 58 (.pointer (some ⟨pb, 0, none⟩))] w fun r w' => r = .returned (.int .i64 9) ∧ w' = w := by
  have HE : Hid (Nn w e) := hE
  obtain ⟨gK, cK, tK, bK⟩ := hE.S
  obtain ⟨g1, c1, t1, b1⟩ := hE.A
  obtain ⟨g2, c2, t2, b2⟩ := hE.L
  obtain ⟨g3, c3, t3, b3⟩ := hE.I
  obtain ⟨g4, c4, t4, b4⟩ := hE.W
  obtain ⟨g5, c5, t5, b5⟩ := hE.Y
  obtain ⟨g6, c6, t6, b6⟩ := hE.D
  obtain ⟨g7, c7, t7, b7⟩ := hE.T
  obtain ⟨g8, c8, t8, b8⟩ := hE.U
  clear hE
  go_enter Tryz.func29, Tryz.ntmps29
  go_wp2_with fail
  refine (is_fault_other pb (e 1) (e 9) cK c1 tK t1 _ h1 (nn_ne HE.out (by decide) (by decide) (by decide)) bK b1).mono ?_
  rintro r w' ⟨rfl, hw⟩; obtain rfl := hw.symm
  go_wp2_with fail
  refine (is_fault_other pb (e 2) (e 9) cK c2 tK t2 _ h1 (nn_ne HE.out (by decide) (by decide) (by decide)) bK b2).mono ?_
  rintro r w' ⟨rfl, hw⟩; obtain rfl := hw.symm
  go_wp2_with fail
  refine (is_fault_other pb (e 3) (e 9) cK c3 tK t3 _ h1 (nn_ne HE.out (by decide) (by decide) (by decide)) bK b3).mono ?_
  rintro r w' ⟨rfl, hw⟩; obtain rfl := hw.symm
  go_wp2_with fail
  refine (is_fault_other pb (e 4) (e 9) cK c4 tK t4 _ h1 (nn_ne HE.out (by decide) (by decide) (by decide)) bK b4).mono ?_
  rintro r w' ⟨rfl, hw⟩; obtain rfl := hw.symm
  go_wp2_with fail
  refine (is_fault_other pb (e 5) (e 9) cK c5 tK t5 _ h1 (nn_ne HE.out (by decide) (by decide) (by decide)) bK b5).mono ?_
  rintro r w' ⟨rfl, hw⟩; obtain rfl := hw.symm
  go_wp2_with fail
  refine (is_fault_other pb (e 6) (e 9) cK c6 tK t6 _ h1 (nn_ne HE.out (by decide) (by decide) (by decide)) bK b6).mono ?_
  rintro r w' ⟨rfl, hw⟩; obtain rfl := hw.symm
  go_wp2_with fail
  refine (is_fault_other pb (e 7) (e 9) cK c7 tK t7 _ h1 (nn_ne HE.out (by decide) (by decide) (by decide)) bK b7).mono ?_
  rintro r w' ⟨rfl, hw⟩; obtain rfl := hw.symm
  go_wp2_with fail
  refine (is_fault_other pb (e 8) (e 9) cK c8 tK t8 _ h1 (nn_ne HE.out (by decide) (by decide) (by decide)) bK b8).mono ?_
  rintro r w' ⟨rfl, hw⟩; obtain rfl := hw.symm
  go_wp2_with fail
  refine (is_fault_same pb (e 9) _ h1).mono ?_
  rintro r w' ⟨rfl, hw⟩; obtain rfl := hw.symm
  go_wp2_with fail
  go_ret
  exact ⟨rfl, rfl⟩
set_option maxHeartbeats 1000000 in
theorem code_b9 (e : Nat → Addr) (w : World) (hE : Nn w e) :
    Calls Tryz.prog 29 #[.iface 194 (.pointer (some (e 9)))] w fun r w' => r = .returned (.int .i64 9) ∧ w' = w := by
  have HE : Hid (Nn w e) := hE
  obtain ⟨gK, cK, tK, bK⟩ := hE.S
  obtain ⟨g1, c1, t1, b1⟩ := hE.A
  obtain ⟨g2, c2, t2, b2⟩ := hE.L
  obtain ⟨g3, c3, t3, b3⟩ := hE.I
  obtain ⟨g4, c4, t4, b4⟩ := hE.W
  obtain ⟨g5, c5, t5, b5⟩ := hE.Y
  obtain ⟨g6, c6, t6, b6⟩ := hE.D
  obtain ⟨g7, c7, t7, b7⟩ := hE.T
  obtain ⟨g8, c8, t8, b8⟩ := hE.U
  clear hE
  go_enter Tryz.func29, Tryz.ntmps29
  go_wp2_with fail
  refine (is_bare_other (e 1) (e 9) cK c1 tK t1 _ (nn_ne HE.out (by decide) (by decide) (by decide)) bK b1).mono ?_
  rintro r w' ⟨rfl, hw⟩; obtain rfl := hw.symm
  go_wp2_with fail
  refine (is_bare_other (e 2) (e 9) cK c2 tK t2 _ (nn_ne HE.out (by decide) (by decide) (by decide)) bK b2).mono ?_
  rintro r w' ⟨rfl, hw⟩; obtain rfl := hw.symm
  go_wp2_with fail
  refine (is_bare_other (e 3) (e 9) cK c3 tK t3 _ (nn_ne HE.out (by decide) (by decide) (by decide)) bK b3).mono ?_
  rintro r w' ⟨rfl, hw⟩; obtain rfl := hw.symm
  go_wp2_with fail
  refine (is_bare_other (e 4) (e 9) cK c4 tK t4 _ (nn_ne HE.out (by decide) (by decide) (by decide)) bK b4).mono ?_
  rintro r w' ⟨rfl, hw⟩; obtain rfl := hw.symm
  go_wp2_with fail
  refine (is_bare_other (e 5) (e 9) cK c5 tK t5 _ (nn_ne HE.out (by decide) (by decide) (by decide)) bK b5).mono ?_
  rintro r w' ⟨rfl, hw⟩; obtain rfl := hw.symm
  go_wp2_with fail
  refine (is_bare_other (e 6) (e 9) cK c6 tK t6 _ (nn_ne HE.out (by decide) (by decide) (by decide)) bK b6).mono ?_
  rintro r w' ⟨rfl, hw⟩; obtain rfl := hw.symm
  go_wp2_with fail
  refine (is_bare_other (e 7) (e 9) cK c7 tK t7 _ (nn_ne HE.out (by decide) (by decide) (by decide)) bK b7).mono ?_
  rintro r w' ⟨rfl, hw⟩; obtain rfl := hw.symm
  go_wp2_with fail
  refine (is_bare_other (e 8) (e 9) cK c8 tK t8 _ (nn_ne HE.out (by decide) (by decide) (by decide)) bK b8).mono ?_
  rintro r w' ⟨rfl, hw⟩; obtain rfl := hw.symm
  go_wp2_with fail
  refine (is_bare_same (e 9) _).mono ?_
  rintro r w' ⟨rfl, hw⟩; obtain rfl := hw.symm
  go_wp2_with fail
  go_ret
  exact ⟨rfl, rfl⟩
set_option maxRecDepth 100000 in
theorem told2_9 (b : Nat) (e : Nat → Addr) (w : World) (hE : Nn w e) (hF : ActFault w b (errV (e 9))) :
    Calls Tryz.prog 114 #[faultV b, .int .i64 9] w fun r w' => r = .returned (.bool true) ∧ Below w.heap.size w w' := by
  unfold faultV
  have HE : Hid _ := And.intro hE hF
  clear hE hF
  go_enter Tryz.func114, Tryz.ntmps114
  go_wp2_with fail
  refine (bad_act2 9 w).mono ?_
  rintro r w1 ⟨rfl, hb1⟩
  have hT := told_act b 9 (e 9) (fun W => Nn W e) (fun W W' h hb => h.below hb) (by decide) (fun W h h3 => code_f9 b e W h h3) (fun W h => code_b9 e W h) w1 (HE.out.1.below hb1) ((hb1.block _ (tab_lt HE.out.2)).trans HE.out.2)
  have HT : Hid _ := And.intro hT hb1
  clear hT hb1
  go_wp2_with fail
  refine HT.out.1.mono ?_
  rintro r w2 ⟨rfl, hb2⟩
  have HB : Hid _ := HT.out.2.trans (hb2.mono HT.out.2.size)
  clear hb2
  go_wp2_with fail
  go_ret
  exact ⟨rfl, HB.out⟩
end Go.Proofs.YthcboklkejlifaaGreatDoor
