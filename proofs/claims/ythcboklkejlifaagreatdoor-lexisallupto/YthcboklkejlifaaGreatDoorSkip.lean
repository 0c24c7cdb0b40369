/- Contract of the scanner's method skipRemark: it goes to the end of the line. -/
import Derived.Test.YthcboklkejlifaaGreatDoorScanner
import Derived.Deep.LoopGhost
namespace Go.Proofs.YthcboklkejlifaaGreatDoor
open Go.RowKit
theorem Sc_heap {B : Nat} {s : ByteArray} {p l f : Nat} {ts : List Tok} {w w' : World} (h : Sc B s p l f ts w) (hw : w'.heap = w.heap) : Sc B s p l f ts w' := by
  obtain ⟨v, h1, h2⟩ := h
  exact ⟨v, by rw [hw]; exact h1, ownsRow_heap h2 hw⟩
theorem Sc_setAt {B : Nat} {s : ByteArray} {p l f : Nat} {ts : List Tok} {w : World} (h : Sc B s p l f ts w) (q : Nat) : Sc B s q l f ts (w.setCell ⟨B, 1, none⟩ (.int .i64 q)) := by
  obtain ⟨v, h1, h2⟩ := h
  refine ⟨v, ?_, ownsRow_setCell_below h2 (Nat.lt_succ_self _) _⟩
  rw [heap_setCell_same _ B 1 _ _ _ h1]; rfl
theorem Sc_lt {B : Nat} {s : ByteArray} {p l f : Nat} {ts : List Tok} {w : World} (h : Sc B s p l f ts w) : B < w.heap.size := by
  obtain ⟨v, h1, _⟩ := h
  exact lt_of_block h1
set_option maxHeartbeats 1000000 in
theorem skip_any (B : Nat) (s : ByteArray) (p l f : Nat) (ts : List Tok) (w : World) (hS : Sc B s p l f ts w) (hp : p ≤ s.size) (hs : s.size ≤ 65536) :
    Calls Tryz.prog 20 #[.pointer (some ⟨B, 0, none⟩)] w fun r w' => r = .returned (.tuple #[]) ∧ Sc B s (Lx.lineE s.data.toList p) l f ts w' ∧ Below B w w' := by
  go_enter Tryz.func20, Tryz.ntmps20
  go_wp2_with fail
  go_loopg [] (s.size - p) (fun g wr => ∃ j : Nat, g = s.size - j ∧ j ≤ s.size ∧ Sc B s j l f ts wr ∧ Below B w wr ∧ Lx.lineE s.data.toList j = Lx.lineE s.data.toList p)
  case atStart => exact ⟨p, rfl, hp, hS, Below.refl _ _, rfl⟩
  case round =>
    obtain ⟨j, rfl, hj, hSj, hbj, hr⟩ := hrel
    have HH : Hid (Sc B s j l f ts wr ∧ Below B w wr ∧ Lx.lineE s.data.toList j = Lx.lineE s.data.toList p) := ⟨hSj, hbj, hr⟩
    obtain ⟨v, hB, hown⟩ := hSj
    have d0 : wr.cell? ⟨B, 0, none⟩ = some (.string s) := by rw [cell_of_block hB]; rfl
    have d1 : wr.cell? ⟨B, 1, none⟩ = some (.int .i64 j) := by rw [cell_of_block hB]; rfl
    have f1 := free_of_block hB 1
    have hlen : s.data.toList.length = s.size := by simp
    clear hbj hr hB hown hS
    by_cases hlt : j < s.size
    · have q0 : (0 : Int) ≤ (j : Int) := by omega
      have q1 : (j : Int) < (s.size : Int) := by omega
      by_cases h10 : s[j].toNat = 10
      · have q2 : ((s[j].toNat : Int) != 10) = false := by simp [h10]
        go_wp2_with fail
        go_quiet (fail)
        go_wp2
        go_end0
        exact ⟨rfl, by rw [← HH.out.2.2, Lx.lineE_no _ _ (by omega) h10]; exact Sc_heap HH.out.1 rfl, below_drewN HH.out.2.1 _⟩
      · have q2 : ((s[j].toNat : Int) != 10) = true := by simp; omega
        go_wp2_with fail
        go_quiet (fail)
        go_wp2
        go_roundg (s.size - (j + 1))
        case measure => omega
        case rel => exact ⟨j + 1, rfl, by omega, Sc_setAt (Sc_heap HH.out.1 rfl) (j + 1), (below_drewN HH.out.2.1 _).setCell (Nat.le_refl _) _, by rw [Lx.lineE_yes _ _ (by omega) h10]; exact HH.out.2.2⟩
    · have q1 : decide ((j : Int) < (s.size : Int)) = false := by simp; omega
      go_wp2_with fail
      go_quiet (fail)
      go_wp2
      go_end0
      exact ⟨rfl, by rw [← HH.out.2.2, show j = s.data.toList.length from by omega, Lx.lineE_end, show s.data.toList.length = j from by omega]; exact Sc_heap HH.out.1 rfl, below_drewN HH.out.2.1 _⟩
end Go.Proofs.YthcboklkejlifaaGreatDoor
