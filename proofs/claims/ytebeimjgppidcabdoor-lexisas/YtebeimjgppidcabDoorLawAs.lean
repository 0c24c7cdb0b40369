/- The statement LexisAs as a call: on any text it returns true, and nothing that was there has turned. -/
import Derived.Test.YtebeimjgppidcabDoorLong
import Derived.Test.YtebeimjgppidcabDoorAs
import Derived.Deep.RegionLaw
namespace Go.Proofs.YtebeimjgppidcabDoor
open Go.RowKit
attribute [local go_sem ↓] Go.wp_at_zero Go.wp_at_succ
/-- The two errors that lexis' faults wrap, unlike, and the handle that errors.As asks. -/
def Errs2 (w : World) (aL aW : Addr) : Prop := Sent w 1 aL ∧ Sent w 0 aW ∧ aW ≠ aL ∧ w.cell? ⟨10, 0, none⟩ = some (.iface 75 (.agg #[.pointer (some ⟨21, 24, none⟩)]))
theorem Errs2.below {w w1 : World} {aL aW : Addr} (h : Errs2 w aL aW) (hb : Below w.heap.size w w1) : Errs2 w1 aL aW :=
  ⟨h.1.below hb, h.2.1.below hb, h.2.2.1, (hb.cell (World.block_lt_of_cell? w _ h.2.2.2)).trans h.2.2.2⟩
theorem scan_two (s : ByteArray) (aL aW : Addr) (w : World) (hm : s.size ≤ maxLen) (hE : Errs2 w aL aW) :
    Calls Tryd.prog 10 #[.string s] w fun e w' => Below w.heap.size w w' ∧ ((∃ v, e = .returned (.tuple #[v, .nilIface])) ∨ ∃ b l c a, e = .returned (.tuple #[.slice none 0 0, .iface 34 (.pointer (some ⟨b, 0, none⟩))]) ∧ (a = aL ∨ a = aW) ∧ w'.heap[b]? = some (.cells #[.string lexisS, .int .i64 l, .int .i64 c, .iface 99 (.pointer (some a))] 38 (0, 0))) := by
  by_cases hs : s.size ≤ 65536
  · refine (scan_any s _ _ _ _ w hs hE.1.1 hE.2.1.1).mono ?_
    rintro e w' ⟨hout, hb⟩
    refine ⟨hb, ?_⟩
    generalize scanF s (s.size + 1) 0 1 0 [] = R at hout
    rcases R with ts | ⟨k, l, c⟩
    · obtain ⟨v, rfl, _⟩ := hout
      exact .inl ⟨v, rfl⟩
    · obtain ⟨b, rfl, _, hB⟩ := hout
      right
      by_cases hk : k = 4
      · exact ⟨b, l, c, aW, rfl, .inr rfl, by rw [hB, if_pos hk]; rfl⟩
      · exact ⟨b, l, c, aL, rfl, .inl rfl, by rw [hB, if_neg hk]; rfl⟩
  · refine (scan_long s _ _ w (by omega) hm hE.1.1).mono ?_
    rintro e w' ⟨b, rfl, _, hB, hb⟩
    exact ⟨hb, .inr ⟨b, 0, 0, aL, rfl, .inl rfl, hB⟩⟩
theorem alive_two (aL aW : Addr) (w : World) (hE : Errs2 w aL aW) : Calls Tryd.prog 7 #[] w fun e w' => e = .returned (.bool true) ∧ Below w.heap.size w w' :=
  alive_any _ _ _ _ w hE.1.1 hE.2.1.1
/-- errors.As: the variable at block B holds the fault behind it; no other block that was there has turned. -/
theorem as_fact (e : Addr) (B : Nat) (w : World) (hg : w.cell? ⟨10, 0, none⟩ = some (.iface 75 (.agg #[.pointer (some ⟨21, 24, none⟩)]))) (hB : w.heap[B]? = some (.cells #[.pointer none] 34 (0, 0))) :
    Calls Tryd.prog 12 #[.iface 34 (.pointer (some e)), .iface 36 (.pointer (some ⟨B, 0, none⟩))] w fun ev w' => ev = .returned (.bool true) ∧ w'.cell? ⟨B, 0, none⟩ = some (.pointer (some e)) ∧ (∀ k, k < w.heap.size → k ≠ B → w'.heap[k]? = w.heap[k]?) ∧ Below B w w' := by
  have hlt := lt_of_block hB
  refine (as_hit e ⟨B, 0, none⟩ (.pointer none) w hg (cell_of_one hB) (free_of_one hB)).mono ?_
  rintro ev w' ⟨rfl, rfl⟩
  refine ⟨rfl, ?_, ?_, ?_⟩
  · refine cell_of_one (t := 34) (one_setCell (v := .pointer none) ?_)
    rw [Below.heap_alloc _ _ _ (by simp; omega), Below.heap_alloc _ _ _ (by simp; omega), Below.heap_alloc _ _ _ (by simp; omega), Below.heap_alloc _ _ _ hlt]
    exact hB
  · intro k hk hne
    rw [Below.heap_setCell _ _ _ _ hne, Below.heap_alloc _ _ _ (by simp; omega), Below.heap_alloc _ _ _ (by simp; omega), Below.heap_alloc _ _ _ (by simp; omega), Below.heap_alloc _ _ _ hk]
  · exact (((((Below.refl _ _).alloc (Nat.le_of_lt hlt) _).alloc (by simp; omega) _).alloc (by simp; omega) _).alloc (by simp; omega) _).setCell (Nat.le_refl _) _
end Go.Proofs.YtebeimjgppidcabDoor
