/- Contract of lexis.runEnd: it tells where the run of letters, digits and underscores that goes on at a place ends. -/
import Derived.Test.YthcboklkejlifaaGreatDoorSmall
import Derived.Deep.QuietTactic
import Derived.BigQuiet
namespace Go.Proofs.YthcboklkejlifaaGreatDoor
open Go.RowKit
theorem ret_int {k : IntKind} {a b : Int} (h : a = b) : Ending.returned (.int k a) = .returned (.int k b) := by rw [h]
theorem and_one_of (p : Int) (h : p = 7 ∨ p = 3 ∨ p = 1) : bits BinOp.and IntKind.i64 p 1 = 1 := by
  rcases h with rfl | rfl | rfl <;> decide
theorem and_one_no (p : Int) (h : p = 16 ∨ p = 32 ∨ p = 64 ∨ p = 8 ∨ p = 0) : bits BinOp.and IntKind.i64 p 1 = 0 := by
  rcases h with rfl | rfl | rfl | rfl | rfl <;> decide
theorem pow_yes (c : Int) (h : Lx.goB c = true) : bits BinOp.and IntKind.i64 (Lx.powZ c) 1 = 1 := by
  apply and_one_of
  unfold Lx.powZ
  unfold Lx.goB at h
  cases h1 : (Lx.smallZ c || Lx.greatZ c) with
  | true => simp
  | false =>
    cases h2 : Lx.digitZ c with
    | true => simp
    | false =>
      rw [h1, h2] at h
      simp at h
      simp [h]
theorem pow_no (c : Int) (h : Lx.goB c = false) : bits BinOp.and IntKind.i64 (Lx.powZ c) 1 = 0 := by
  apply and_one_no
  unfold Lx.powZ
  unfold Lx.goB at h
  simp only [Bool.or_eq_false_iff] at h
  obtain ⟨⟨⟨h1, h2⟩, h3⟩, h4⟩ := h
  simp only [h1, h2, h3, h4, Bool.or_false, Bool.false_eq_true, if_false]
  split
  · simp
  · split
    · simp
    · split
      · simp
      · split <;> simp
theorem byte_range (s : ByteArray) (k : Nat) (h : k < s.size) : 0 ≤ ((s[k].toNat : Nat) : Int) ∧ ((s[k].toNat : Nat) : Int) ≤ 255 := by
  have := s[k].toNat_lt; omega
theorem list_at (s : ByteArray) (k : Nat) (h : k < s.size) : s.data.toList[k]'(by simpa using h) = s[k] := by rfl
set_option maxHeartbeats 400000 in
theorem runEnd_any (s : ByteArray) (k : Nat) (w : World) (hs : s.size ≤ maxLen) (hk : k ≤ s.size) :
    Calls Tryz.prog 82 #[.string s, .int .i64 k] w fun e w' => e = .returned (.int .i64 (Lx.runE s.data.toList k : Nat)) ∧ w' = w := by
  unfold maxLen at hs
  go_enter Tryz.func82, Tryz.ntmps82
  go_wp2
  go_loop [5] (fun i => ∃ j : Nat, j ≤ s.size ∧ i = .int .i64 j ∧ Lx.runE s.data.toList j = Lx.runE s.data.toList k) (fun i => s.size - (intOf i).toNat)
  case atStart => exact ⟨k, hk, rfl, rfl⟩
  case round =>
    obtain ⟨j, hj, rfl, hr⟩ := hrel
    have HR : Hid (Lx.runE s.data.toList j = Lx.runE s.data.toList k) := hr
    clear hr
    by_cases hlt : j < s.size
    · have hb := byte_range s j hlt
      have hl : j < s.data.toList.length := by simpa using hlt
      cases hg : Lx.goB (s[j].toNat : Int) with
      | true =>
        have hp := pow_yes _ hg
        go_wp2_with (go_at_call 81; refine (powers_any _ _ (by omega) (by omega)).mono ?_; rintro e w' ⟨rfl, rfl⟩)
        go_round
        case rel => exact ⟨j + 1, by omega, by go_num, by rw [Lx.runE_yes _ _ hl hg]; exact HR.out⟩
        case measure => simp [intOf]; omega
      | false =>
        have hp := pow_no _ hg
        go_wp2_with (go_at_call 81; refine (powers_any _ _ (by omega) (by omega)).mono ?_; rintro e w' ⟨rfl, rfl⟩)
        go_ret
        exact ⟨ret_int (by rw [← HR.out, Lx.runE_no _ _ hl hg]), rfl⟩
    · have hj' : j = s.size := by omega
      go_wp2
      go_ret
      exact ⟨ret_int (by rw [← HR.out]; subst hj'; have h9 := Lx.runE_end s.data.toList; rw [show s.data.toList.length = s.size from by simp] at h9; rw [h9]), rfl⟩
end Go.Proofs.YthcboklkejlifaaGreatDoor
