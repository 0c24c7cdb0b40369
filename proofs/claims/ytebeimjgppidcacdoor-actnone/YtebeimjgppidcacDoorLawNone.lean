/- The statement ActNone as a call: on any arguments it returns true, and nothing that was there has turned. -/
import Derived.Test.YtebeimjgppidcacDoorToldAct
import Derived.Test.YtebeimjgppidcacDoorAlive2
namespace Go.Proofs.YtebeimjgppidcacDoor
open Go.RowKit Go.Maps
set_option maxRecDepth 100000 in
theorem none_add (x : ByteArray) (T : TypeId) (u : Value) (w : World) (hA : w.cell? ⟨0, 0, none⟩ = some (.iface T u)) :
    Calls Tryd.prog 21 #[.pointer none, .string x] w fun r w' => ∃ v, r = .returned (.tuple #[v, faultV w.heap.size]) ∧ ActFault w' w.heap.size (.iface T u) ∧ Below w.heap.size w w' := by
  go_enter Tryd.func21, Tryd.ntmps21
  go_wp2_with (go_at_call 43; refine (fault_any _ _ _).mono ?_; rintro r w' ⟨rfl, hF, hb⟩)
  go_ret2
  exact ⟨_, rfl, hF, hb⟩
set_option maxRecDepth 100000 in
theorem none_find (x : ByteArray) (T : TypeId) (u : Value) (w : World) (hA : w.cell? ⟨0, 0, none⟩ = some (.iface T u)) :
    Calls Tryd.prog 22 #[.pointer none, .string x] w fun r w' => ∃ v, r = .returned (.tuple #[v, faultV w.heap.size]) ∧ ActFault w' w.heap.size (.iface T u) ∧ Below w.heap.size w w' := by
  go_enter Tryd.func22, Tryd.ntmps22
  go_wp2_with (go_at_call 43; refine (fault_any _ _ _).mono ?_; rintro r w' ⟨rfl, hF, hb⟩)
  go_ret2
  exact ⟨_, rfl, hF, hb⟩
set_option maxRecDepth 100000 in
theorem none_name (x : Int) (T : TypeId) (u : Value) (w : World) (hA : w.cell? ⟨0, 0, none⟩ = some (.iface T u)) :
    Calls Tryd.prog 23 #[.pointer none, .int .i64 x] w fun r w' => ∃ v, r = .returned (.tuple #[v, faultV w.heap.size]) ∧ ActFault w' w.heap.size (.iface T u) ∧ Below w.heap.size w w' := by
  go_enter Tryd.func23, Tryd.ntmps23
  go_wp2_with (go_at_call 43; refine (fault_any _ _ _).mono ?_; rintro r w' ⟨rfl, hF, hb⟩)
  go_ret2
  exact ⟨_, rfl, hF, hb⟩
set_option maxRecDepth 100000 in
theorem none_text (x : Int) (T : TypeId) (u : Value) (w : World) (hA : w.cell? ⟨0, 0, none⟩ = some (.iface T u)) :
    Calls Tryd.prog 24 #[.pointer none, .int .i64 x] w fun r w' => ∃ v, r = .returned (.tuple #[v, faultV w.heap.size]) ∧ ActFault w' w.heap.size (.iface T u) ∧ Below w.heap.size w w' := by
  go_enter Tryd.func24, Tryd.ntmps24
  go_wp2_with (go_at_call 43; refine (fault_any _ _ _).mono ?_; rintro r w' ⟨rfl, hF, hb⟩)
  go_ret2
  exact ⟨_, rfl, hF, hb⟩
set_option maxRecDepth 100000 in
theorem none_read (x : ByteArray) (T : TypeId) (u : Value) (w : World) (hA : w.cell? ⟨0, 0, none⟩ = some (.iface T u)) :
    Calls Tryd.prog 25 #[.pointer none, .string x] w fun r w' => ∃ v, r = .returned (.tuple #[v, faultV w.heap.size]) ∧ ActFault w' w.heap.size (.iface T u) ∧ Below w.heap.size w w' := by
  go_enter Tryd.func25, Tryd.ntmps25
  go_wp2_with (go_at_call 43; refine (fault_any _ _ _).mono ?_; rintro r w' ⟨rfl, hF, hb⟩)
  go_ret2
  exact ⟨_, rfl, hF, hb⟩
theorem none_size (w : World) : Calls Tryd.prog 27 #[.pointer none] w fun r w' => r = .returned (.int .i64 0) ∧ w' = w := by
  go_enter Tryd.func27, Tryd.ntmps27
  go_wp2
  go_ret
  exact ⟨rfl, rfl⟩
theorem none_names (w : World) : Calls Tryd.prog 28 #[.pointer none] w fun r w' => r = .returned (.slice none 0 0) ∧ w' = w := by
  go_enter Tryd.func28, Tryd.ntmps28
  go_wp2
  go_ret
  exact ⟨rfl, rfl⟩
theorem none_twin (w : World) : Calls Tryd.prog 29 #[.pointer none] w fun r w' => r = .returned (.pointer none) ∧ w' = w := by
  go_enter Tryd.func29, Tryd.ntmps29
  go_wp2
  go_ret
  exact ⟨rfl, rfl⟩
set_option maxHeartbeats 1000000 in
theorem bad_act (k : Int) (w : World) : Calls Tryd.prog 26 #[.string ⟨#[97, 99, 116]⟩, .int .i64 k] w fun e w' => e = .returned (.agg #[.int .i64 k, .int .i64 0, .int .i64 0, .string actB]) ∧ Below w.heap.size w w' := by
  have zs : (⟨#[97, 99, 116]⟩ ++ ⟨#[32]⟩ : ByteArray) = actB := by decide
  go_enter Tryd.func26, Tryd.ntmps26
  go_wp2
  exact bodyPost_ret (v := .agg #[.int .i64 k, .int .i64 0, .int .i64 0, .string actB]) (by simp [results, Tryd.results26, go_sem]) rfl ⟨rfl, (Below.refl _ _).alloc (Nat.le_refl _) _⟩
set_option maxHeartbeats 1000000 in
theorem code_arg (b : Nat) (a : Addr) (w : World) (hA : w.cell? ⟨0, 0, none⟩ = some (.iface 103 (.pointer (some a)))) (h1 : w.cell? ⟨b, 3, none⟩ = some (.iface 103 (.pointer (some a)))) :
    Calls Tryd.prog 35 #[.iface 74 (.pointer (some ⟨b, 0, none⟩))] w fun e w' => e = .returned (.int .i64 1) ∧ w' = w := by
  go_enter Tryd.func35, Tryd.ntmps35
  go_wp2_with (go_at_call 45; refine (is_fault_same b a _ h1).mono ?_; rintro e w' ⟨rfl, hw⟩; obtain rfl := hw.symm)
  go_ret
  exact ⟨rfl, rfl⟩
set_option maxHeartbeats 1000000 in
theorem bare_arg (a : Addr) (w : World) (hA : w.cell? ⟨0, 0, none⟩ = some (.iface 103 (.pointer (some a)))) :
    Calls Tryd.prog 35 #[.iface 103 (.pointer (some a))] w fun e w' => e = .returned (.int .i64 1) ∧ w' = w := by
  go_enter Tryd.func35, Tryd.ntmps35
  go_wp2_with (go_at_call 45; refine (is_bare_same a _).mono ?_; rintro e w' ⟨rfl, hw⟩; obtain rfl := hw.symm)
  go_ret
  exact ⟨rfl, rfl⟩
/-- Both errors that are asked here lie in memory. -/
def NE (a u : Addr) (w : World) : Prop := w.cell? ⟨0, 0, none⟩ = some (.iface 103 (.pointer (some a))) ∧ w.cell? ⟨3, 0, none⟩ = some (.iface 103 (.pointer (some u)))
theorem NE.below {a u : Addr} {w w' : World} (h : NE a u w) (hb : Below w.heap.size w w') : NE a u w' :=
  ⟨(hb.cell (World.block_lt_of_cell? w _ h.1)).trans h.1, (hb.cell (World.block_lt_of_cell? w _ h.2)).trans h.2⟩
theorem told_arg (b : Nat) (a u : Addr) (w : World) (hP : NE a u w) (hB : ActFault w b (.iface 103 (.pointer (some a)))) :
    Calls Tryd.prog 30 #[faultV b, .agg #[.int .i64 1, .int .i64 0, .int .i64 0, .string actB]] w fun e w' => e = .returned (.bool true) ∧ Below w.heap.size w w' :=
  told_act b 1 a (NE a u) (fun _ _ h hb => h.below hb) (by decide) (fun W h h1 => code_arg b a W h.1 h1) (fun W h => bare_arg a W h.1) w hP hB
/-- Where the statement stands: the faults that were told so far. -/
structure NS (a u : Addr) (w0 : World) (bs : List Nat) (w : World) : Prop where
  ne : NE a u w
  fl : ∀ b ∈ bs, ActFault w b (.iface 103 (.pointer (some a)))
  bl : Below w0.heap.size w0 w
theorem NS.below {a u : Addr} {w0 w w' : World} {bs : List Nat} (h : NS a u w0 bs w) (hb : Below w.heap.size w w') : NS a u w0 bs w' :=
  ⟨h.ne.below hb, fun b hm => (hb.block b (tab_lt (h.fl b hm))).trans (h.fl b hm), h.bl.trans (hb.mono h.bl.size)⟩
theorem NS.add {a u : Addr} {w0 w w' : World} {bs : List Nat} {b : Nat} (h : NS a u w0 bs w) (hb : Below w.heap.size w w') (hF : ActFault w' b (.iface 103 (.pointer (some a)))) : NS a u w0 (b :: bs) w' :=
  ⟨(h.below hb).ne, fun c hc => by rcases List.mem_cons.1 hc with rfl | hc
                                   · exact hF
                                   · exact (h.below hb).fl c hc, (h.below hb).bl⟩
/-- .. and the document's error. -/
def NZ (a u : Addr) (w0 : World) (bs : List Nat) (E : Nat) (w : World) : Prop := NS a u w0 bs w ∧ w.heap[E]? = some (.cells #[.int .i64 1, .int .i64 0, .int .i64 0, .string actB] 43 (0, 0))
theorem NZ.below {a u : Addr} {w0 w w' : World} {bs : List Nat} {E : Nat} (h : NZ a u w0 bs E w) (hb : Below w.heap.size w w') : NZ a u w0 bs E w' := ⟨h.1.below hb, (hb.block E (tab_lt h.2)).trans h.2⟩
theorem NZ.cells {a u : Addr} {w0 w : World} {bs : List Nat} {E : Nat} (h : NZ a u w0 bs E w) : w.cell? ⟨E, 0, none⟩ = some (.int .i64 1) ∧ w.cell? ⟨E, 1, none⟩ = some (.int .i64 0) ∧ w.cell? ⟨E, 2, none⟩ = some (.int .i64 0) ∧ w.cell? ⟨E, 3, none⟩ = some (.string actB) := by
  refine ⟨?_, ?_, ?_, ?_⟩ <;> (rw [blk_cell h.2]; rfl)
set_option maxRecDepth 100000 in
set_option maxHeartbeats 4000000 in
theorem lawNone_any (x : ByteArray) (n : Int) (a u : Addr) (w : World) (hN : NE a u w) :
    Calls Tryd.prog 4 #[.string x, .int .i64 n] w fun e w' => e = .returned (.bool true) ∧ Below w.heap.size w w' := by
  have H0 : Hid (NS a u w [] w) := ⟨hN, by simp, Below.refl _ _⟩
  clear hN
  go_enter Tryd.func4, Tryd.ntmps4
  go_wp2_with fail
  refine (none_add x _ _ w H0.out.ne.1).mono ?_
  rintro r w1 ⟨v1, rfl, hF, hb⟩
  have H1 : Hid (NS a u w [w.heap.size] w1) := H0.out.add hb hF
  clear hF hb H0
  go_wp2_with fail
  refine (none_find x _ _ w1 H1.out.ne.1).mono ?_
  rintro r w2 ⟨v2, rfl, hF, hb⟩
  obtain ⟨b2, hb2⟩ : ∃ b, b = w1.heap.size := ⟨_, rfl⟩
  rw [← hb2] at hF ⊢
  have H2 : Hid (NS a u w [b2, w.heap.size] w2) := H1.out.add hb hF
  clear hF hb H1 hb2
  go_wp2_with fail
  refine (none_name n _ _ w2 H2.out.ne.1).mono ?_
  rintro r w3 ⟨v3, rfl, hF, hb⟩
  obtain ⟨b3, hb3⟩ : ∃ b, b = w2.heap.size := ⟨_, rfl⟩
  rw [← hb3] at hF ⊢
  have H3 : Hid (NS a u w [b3, b2, w.heap.size] w3) := H2.out.add hb hF
  clear hF hb H2 hb3
  go_wp2_with fail
  refine (none_text n _ _ w3 H3.out.ne.1).mono ?_
  rintro r w4 ⟨v4, rfl, hF, hb⟩
  obtain ⟨b4, hb4⟩ : ∃ b, b = w3.heap.size := ⟨_, rfl⟩
  rw [← hb4] at hF ⊢
  have H4 : Hid (NS a u w [b4, b3, b2, w.heap.size] w4) := H3.out.add hb hF
  clear hF hb H3 hb4
  go_wp2_with fail
  refine (none_read x _ _ w4 H4.out.ne.1).mono ?_
  rintro r w5 ⟨v5, rfl, hF, hb⟩
  obtain ⟨b5, hb5⟩ : ∃ b, b = w4.heap.size := ⟨_, rfl⟩
  rw [← hb5] at hF ⊢
  have H5 : Hid (NS a u w [b5, b4, b3, b2, w.heap.size] w5) := H4.out.add hb hF
  clear hF hb H4 hb5
  go_wp2_with fail
  refine (bad_act 1 w5).mono ?_
  rintro r w6 ⟨rfl, hb⟩
  have H6 : Hid (NS a u w [b5, b4, b3, b2, w.heap.size] w6) := H5.out.below hb
  clear hb H5
  go_wp2_with fail
  obtain ⟨E, hE⟩ : ∃ E, E = w6.heap.size := ⟨_, rfl⟩
  obtain ⟨w7, hw7⟩ : ∃ w7, w7 = w6.alloc (.cells #[.int .i64 1, .int .i64 0, .int .i64 0, .string actB] 43) := ⟨_, rfl⟩
  rw [← hw7, ← hE]
  have H7 : Hid (NZ a u w [b5, b4, b3, b2, w.heap.size] E w7) := (by
    have hb : Below w6.heap.size w6 w7 := by rw [hw7]; exact (Below.refl _ _).alloc (Nat.le_refl _) _
    exact ⟨H6.out.below hb, by rw [hw7, hE]; exact (MapKept.heap_alloc w6 _).1⟩ : NZ a u w [b5, b4, b3, b2, w.heap.size] E w7)
  clear hw7 hE H6
  refine (alive2_any u w7 H7.out.1.ne.2).mono ?_
  rintro r w8 ⟨rfl, hb⟩
  have H8 : Hid (NZ a u w [b5, b4, b3, b2, w.heap.size] E w8) := H7.out.below hb
  clear hb H7
  obtain ⟨e0, e1, e2, e3⟩ := H8.out.cells
  go_wp2_with (first | (go_at_call 27; refine (none_size _).mono ?_; rintro r w' ⟨rfl, hw⟩; obtain rfl := hw.symm) | (go_at_call 28; refine (none_names _).mono ?_; rintro r w' ⟨rfl, hw⟩; obtain rfl := hw.symm) | (go_at_call 29; refine (none_twin _).mono ?_; rintro r w' ⟨rfl, hw⟩; obtain rfl := hw.symm))
  refine (told_arg w.heap.size a u w8 H8.out.1.ne (H8.out.1.fl _ (by simp))).mono ?_
  rintro r w9 ⟨rfl, hb⟩
  have H9 : Hid (NZ a u w [b5, b4, b3, b2, w.heap.size] E w9) := H8.out.below hb
  clear hb H8 e0 e1 e2 e3
  obtain ⟨e0, e1, e2, e3⟩ := H9.out.cells
  go_wp2_with fail
  refine (told_arg b2 a u w9 H9.out.1.ne (H9.out.1.fl _ (by simp))).mono ?_
  rintro r w10 ⟨rfl, hb⟩
  have H10 : Hid (NZ a u w [b5, b4, b3, b2, w.heap.size] E w10) := H9.out.below hb
  clear hb H9 e0 e1 e2 e3
  obtain ⟨e0, e1, e2, e3⟩ := H10.out.cells
  go_wp2_with fail
  refine (told_arg b3 a u w10 H10.out.1.ne (H10.out.1.fl _ (by simp))).mono ?_
  rintro r w11 ⟨rfl, hb⟩
  have H11 : Hid (NZ a u w [b5, b4, b3, b2, w.heap.size] E w11) := H10.out.below hb
  clear hb H10 e0 e1 e2 e3
  obtain ⟨e0, e1, e2, e3⟩ := H11.out.cells
  go_wp2_with fail
  refine (told_arg b4 a u w11 H11.out.1.ne (H11.out.1.fl _ (by simp))).mono ?_
  rintro r w12 ⟨rfl, hb⟩
  have H12 : Hid (NZ a u w [b5, b4, b3, b2, w.heap.size] E w12) := H11.out.below hb
  clear hb H11 e0 e1 e2 e3
  obtain ⟨e0, e1, e2, e3⟩ := H12.out.cells
  go_wp2_with fail
  refine (told_arg b5 a u w12 H12.out.1.ne (H12.out.1.fl _ (by simp))).mono ?_
  rintro r w13 ⟨rfl, hb⟩
  have H13 : Hid (NZ a u w [b5, b4, b3, b2, w.heap.size] E w13) := H12.out.below hb
  clear hb H12 e0 e1 e2 e3
  obtain ⟨e0, e1, e2, e3⟩ := H13.out.cells
  go_wp2_with fail
  go_ret
  exact ⟨rfl, H13.out.1.bl⟩
end Go.Proofs.YtebeimjgppidcacDoor
