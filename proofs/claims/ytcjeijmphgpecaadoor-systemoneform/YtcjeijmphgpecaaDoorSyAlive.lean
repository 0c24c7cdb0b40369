/- Contract of the law's alive: a first call whose answer the document fixes. -/
import Derived.Test.YtcjeijmphgpecaaDoorSyNew
import Derived.Test.YtcjeijmphgpecaaDoorSyRch
namespace Go.Proofs.YtcjeijmphgpecaaDoor
open Go.RowKit Go.Maps
attribute [local go_sem ↓] Go.wp_at_zero Go.wp_at_succ
def esA : List Sy.Ed := [(0, 1, 1), (1, 0, 0), (2, 1, 0)]
theorem esA_right : Sy.right ((3 : Nat) : Int) 2 0 esA = true := by decide
theorem esA_out : (Sy.rowOf 3 (Sy.nf esA) 0).length = 1 := by decide
theorem esA_in : (Sy.rowOf 3 (Sy.nf ((Sy.nf esA).map Sy.turn)) 0).length = 2 := by decide
theorem esA_deg : Sy.degTo (Sy.nf esA) 3 = 1 := by decide
theorem esA_rea {p : Int} (h : Sy.Rea esA 0 p) : p = 0 ∨ p = 1 := by
  induction h with
  | start => exact .inl rfl
  | step e he _ ih =>
    simp only [esA, List.mem_cons, List.not_mem_nil, or_false] at he
    rcases he with rfl | rfl | rfl
    · exact .inr rfl
    · exact .inl rfl
    · exact .inl rfl
theorem esA_marks {ms : List Bool} (hl : ms.length = 3) (h : ∀ p : Nat, p < 3 → (ms[p]? = some true ↔ Sy.Rea esA 0 p)) : (Sy.marked ms).length = 2 := by
  match ms, hl with
  | [a, b, c], _ =>
    have ha : a = true := by have := (h 0 (by omega)).2 .start; simpa using this
    have hb : b = true := by have := (h 1 (by omega)).2 (.step (0, 1, 1) (by simp [esA]) .start); simpa using this
    have hc : c = false := by
      cases c with
      | false => rfl
      | true =>
        rcases esA_rea ((h 2 (by omega)).1 rfl) with e | e <;> omega
    subst ha hb hc
    decide
theorem esA_has (w : World) : BEdges.Has (w.alloc (.cells #[.int .i64 0, .int .i64 1, .int .i64 1, .int .i64 1, .int .i64 0, .int .i64 0, .int .i64 2, .int .i64 1, .int .i64 0] 47)) (.slice (some ⟨w.heap.size, 0, none⟩) 3 3) esA := by
  refine ⟨some ⟨w.heap.size, 0, none⟩, 3, rfl, fun j u hj => ⟨_, rfl, ?_⟩⟩
  rw [addz]
  refine cell0_of (heap_alloc_new w _) ?_
  rw [← Array.getElem?_toList]
  exact hj
set_option maxRecDepth 100000 in
set_option maxHeartbeats 4000000 in
theorem pAlive (a : Addr) (w : World) (h : Sent w 0 a) : PAlive w := fun W hb => by
  have hA := h.below hb
  clear h hb
  obtain ⟨w1, hw1⟩ : ∃ w1, w1 = W.alloc (.cells #[.int .i64 0, .int .i64 1, .int .i64 1, .int .i64 1, .int .i64 0, .int .i64 0, .int .i64 2, .int .i64 1, .int .i64 0] 47) := ⟨_, rfl⟩
  have hb1 : Below W.heap.size W w1 := by rw [hw1]; exact (Below.refl _ _).alloc (Nat.le_refl _) _
  have hv := esA_has W
  rw [← hw1] at hv
  have hN := new_ok sort12 ((3 : Nat) : Int) 2 0 (.slice (some ⟨W.heap.size, 0, none⟩) 3 3) esA a w1 (hA.below hb1) hv (by decide) (by decide) esA_right
  unfold sysV at hN
  have HN : Hid _ := And.intro hN (And.intro hb1 hw1)
  clear hN hb1 hw1 hv hA
  go_enter Tryd.func6, Tryd.ntmps6
  go_wp2_with fail
  rw [← HN.out.2.2]
  refine Calls.mono HN.out.1 ?_
  rintro r w2 ⟨g, bs, bb, cs, cb, m, hm, rfl, hG, hb2⟩
  obtain rfl : m = 3 := by omega
  have hbw := HN.out.2.1.trans (hb2.mono HN.out.2.1.size)
  have H2 : Hid _ := And.intro hG hbw
  clear hG hb2 hm hbw HN
  go_wp2_with fail
  refine Calls.mono (out_any 0 _ H2.out.1) ?_
  rintro r w3 ⟨u3, rfl, hO3, hb3⟩
  obtain ⟨a3, c3, rfl⟩ := row_shape hO3
  rw [esA_out]
  have hG3 := H2.out.1.below hb3
  have H3 : Hid _ := And.intro hG3 (H2.out.2.trans (hb3.mono H2.out.2.size))
  clear hG3 hb3 hO3 H2
  go_wp2_with fail
  refine Calls.mono (in_any 0 _ H3.out.1) ?_
  rintro r w4 ⟨u4, rfl, hO4, hb4⟩
  obtain ⟨a4, c4, rfl⟩ := row_shape hO4
  rw [esA_in]
  have hG4 := H3.out.1.below hb4
  have H4 : Hid _ := And.intro hG4 (H3.out.2.trans (hb4.mono H3.out.2.size))
  clear hG4 hb4 hO4 H3
  go_wp2_with fail
  refine Calls.mono (reach_any _ H4.out.1) ?_
  rintro r w5 ⟨u5, ms, rfl, hO5, hl5, hm5, hb5⟩
  obtain ⟨a5, c5, rfl⟩ := row_shape hO5
  rw [esA_marks hl5 hm5]
  have hG5 := H4.out.1.below hb5
  have H5 : Hid _ := And.intro hG5 (H4.out.2.trans (hb5.mono H4.out.2.size))
  clear hG5 hb5 hO5 H4 hl5 hm5
  go_wp2_with fail
  refine Calls.mono (degree_any _ H5.out.1) ?_
  rintro r w6 ⟨rfl, hb6⟩
  rw [esA_deg]
  have H6 : Hid _ := H5.out.2.trans (hb6.mono H5.out.2.size)
  clear hb6 H5
  go_wp2_with fail
  go_ret
  exact ⟨rfl, H6.out⟩
end Go.Proofs.YtcjeijmphgpecaaDoor
