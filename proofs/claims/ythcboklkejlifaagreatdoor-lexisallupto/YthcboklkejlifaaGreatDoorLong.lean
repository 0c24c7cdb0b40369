/- What lexis.Scan answers on any text, long ones too: words in new memory, or a fault of lexis in new memory that wraps ErrLong or ErrWord. -/
import Derived.Test.YthcboklkejlifaaGreatDoorAlive
import Derived.Test.YthcboklkejlifaaGreatDoorCode
namespace Go.Proofs.YthcboklkejlifaaGreatDoor
open Go.RowKit
def lexisS : ByteArray := ⟨#[108, 101, 120, 105, 115]⟩
set_option maxHeartbeats 1000000 in
theorem scan_long (s : ByteArray) (TL : TypeId) (uL : Value) (w : World) (hs : 65536 < s.size) (hm : s.size ≤ maxLen) (hL : w.cell? ⟨0, 0, none⟩ = some (.iface TL uL)) :
    Calls Tryz.prog 7 #[.string s] w fun e w' => ∃ b, e = .returned (.tuple #[.slice none 0 0, .iface 58 (.pointer (some ⟨b, 0, none⟩))]) ∧ w.heap.size ≤ b ∧ w'.heap[b]? = some (.cells #[.string lexisS, .int .i64 0, .int .i64 0, .iface TL uL] 60 (0, 0)) ∧ Below w.heap.size w w' := by
  unfold maxLen at hm
  have h9 : (65536 : Int) < (s.size : Int) := by omega
  go_enter Tryz.func7, Tryz.ntmps7
  go_wp2_with fail
  go_step3
  go_wp2_with fail
  go_region
  all_goals go_wp2
  all_goals (rw [Exit.noGoto_ret])
  all_goals go_ret2
  all_goals exact ⟨w.heap.size, rfl, Nat.le_refl _, heap_alloc_new w _, (Below.refl _ _).drew.alloc (Nat.le_refl _) _⟩
/-- Scan answers words, or a fault that wraps one of the two. -/
theorem scan_all (s : ByteArray) (aA aL aI aW : Addr) (w : World) (hm : s.size ≤ maxLen) (hE : Errs w aA aL aI aW) :
    Calls Tryz.prog 7 #[.string s] w fun e w' => Below w.heap.size w w' ∧ ((∃ v, e = .returned (.tuple #[v, .nilIface])) ∨ ∃ b l c a, e = .returned (.tuple #[.slice none 0 0, .iface 58 (.pointer (some ⟨b, 0, none⟩))]) ∧ (a = aL ∨ a = aW) ∧ w'.heap[b]? = some (.cells #[.string lexisS, .int .i64 l, .int .i64 c, .iface 194 (.pointer (some a))] 60 (0, 0))) := by
  by_cases hs : s.size ≤ 65536
  · refine (scan_any s _ _ _ _ w hs hE.2.1.1 hE.2.2.2.1.1).mono ?_
    rintro e w' ⟨hout, hb⟩
    refine ⟨hb, ?_⟩
    generalize scanF s (s.size + 1) 0 1 0 [] = R at hout
    rcases R with ts | ⟨k, l, c⟩
    · obtain ⟨v, rfl, _⟩ := hout
      exact .inl ⟨v, rfl⟩
    · obtain ⟨b, rfl, _, hB⟩ := hout
      right
      by_cases hk : k = 4
      · exact ⟨b, l, c, aW, rfl, .inr rfl, by rw [hB, if_pos hk]; rfl⟩
      · exact ⟨b, l, c, aL, rfl, .inl rfl, by rw [hB, if_neg hk]; rfl⟩
  · refine (scan_long s _ _ w (by omega) hm hE.2.1.1).mono ?_
    rintro e w' ⟨b, rfl, _, hB, hb⟩
    exact ⟨hb, .inr ⟨b, 0, 0, aL, rfl, .inl rfl, hB⟩⟩
end Go.Proofs.YthcboklkejlifaaGreatDoor
