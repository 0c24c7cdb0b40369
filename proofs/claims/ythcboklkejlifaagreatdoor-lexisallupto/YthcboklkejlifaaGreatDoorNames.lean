/- Contracts of lexis.IsConst and of the helpers of the document's own name: they tell the same of every text. -/
import Derived.Test.YthcboklkejlifaaGreatDoorNam
namespace Go.Proofs.YthcboklkejlifaaGreatDoor
open Go.RowKit
theorem letter_any (c : Int) (w : World) : Calls Tryz.prog 25 #[.int .u8 c] w fun e w' => e = .returned (.bool (Lx.letterZ c)) ∧ w' = w := by
  rcases (show c < 65 ∨ (65 ≤ c ∧ c ≤ 90) ∨ (90 < c ∧ c < 97) ∨ (97 ≤ c ∧ c ≤ 122) ∨ 122 < c from by omega) with h | h | h | h | h
  · have H : Hid (Lx.letterZ c = false) := (by simp [Lx.letterZ, Lx.smallZ, Lx.greatZ]; omega : Lx.letterZ c = false)
    go_enter Tryz.func25, Tryz.ntmps25
    go_wp2
    go_ret
    exact ⟨ret_bool H.out.symm, rfl⟩
  · have H : Hid (Lx.letterZ c = true) := (by simp [Lx.letterZ, Lx.smallZ, Lx.greatZ]; omega : Lx.letterZ c = true)
    go_enter Tryz.func25, Tryz.ntmps25
    go_wp2
    go_ret
    exact ⟨ret_bool H.out.symm, rfl⟩
  · have z : decide (c ≤ 90) = false := by simp; omega
    have H : Hid (Lx.letterZ c = false) := (by simp [Lx.letterZ, Lx.smallZ, Lx.greatZ]; omega : Lx.letterZ c = false)
    go_enter Tryz.func25, Tryz.ntmps25
    go_wp2
    go_ret
    exact ⟨ret_bool H.out.symm, rfl⟩
  · have H : Hid (Lx.letterZ c = true) := (by simp [Lx.letterZ, Lx.smallZ, Lx.greatZ]; omega : Lx.letterZ c = true)
    go_enter Tryz.func25, Tryz.ntmps25
    go_wp2
    go_ret
    exact ⟨ret_bool H.out.symm, rfl⟩
  · have z : decide (c ≤ 90) = false := by simp; omega
    have z2 : decide (c ≤ 122) = false := by simp; omega
    have H : Hid (Lx.letterZ c = false) := (by simp [Lx.letterZ, Lx.smallZ, Lx.greatZ]; omega : Lx.letterZ c = false)
    go_enter Tryz.func25, Tryz.ntmps25
    go_wp2
    go_ret
    exact ⟨ret_bool H.out.symm, rfl⟩
theorem inner_any (c : Int) (w : World) : Calls Tryz.prog 24 #[.int .u8 c] w fun e w' => e = .returned (.bool (Lx.goB c)) ∧ w' = w := by
  have hl : Lx.goB c = (Lx.letterZ c || Lx.digitZ c || c == 95) := rfl
  rw [hl]
  clear hl
  cases k : Lx.letterZ c with
  | true =>
    go_enter Tryz.func24, Tryz.ntmps24
    go_wp2_with (go_at_call 25; refine (letter_any _ _).mono ?_; rintro e w' ⟨rfl, rfl⟩)
    go_ret
    exact ⟨rfl, rfl⟩
  | false =>
    cases k9 : (c == 95) with
    | true =>
      have h : c = 95 := by simpa using k9
      go_enter Tryz.func24, Tryz.ntmps24
      go_wp2_with (go_at_call 25; refine (letter_any _ _).mono ?_; rintro e w' ⟨rfl, rfl⟩)
      go_ret
      exact ⟨ret_bool (by rw [Bool.or_true]), rfl⟩
    | false =>
      rcases (show c < 48 ∨ (48 ≤ c ∧ c ≤ 57) ∨ 57 < c from by omega) with h | h | h
      · have H : Hid (Lx.digitZ c = false) := (by simp [Lx.digitZ]; omega : Lx.digitZ c = false)
        go_enter Tryz.func24, Tryz.ntmps24
        go_wp2_with (go_at_call 25; refine (letter_any _ _).mono ?_; rintro e w' ⟨rfl, rfl⟩)
        go_ret
        exact ⟨ret_bool (by rw [H.out]), rfl⟩
      · have H : Hid (Lx.digitZ c = true) := (by simp [Lx.digitZ]; omega : Lx.digitZ c = true)
        go_enter Tryz.func24, Tryz.ntmps24
        go_wp2_with (go_at_call 25; refine (letter_any _ _).mono ?_; rintro e w' ⟨rfl, rfl⟩)
        go_ret
        exact ⟨ret_bool (by rw [H.out]; rfl), rfl⟩
      · have z : decide (c ≤ 57) = false := by simp; omega
        have H : Hid (Lx.digitZ c = false) := (by simp [Lx.digitZ]; omega : Lx.digitZ c = false)
        go_enter Tryz.func24, Tryz.ntmps24
        go_wp2_with (go_at_call 25; refine (letter_any _ _).mono ?_; rintro e w' ⟨rfl, rfl⟩)
        go_ret
        exact ⟨ret_bool (by rw [H.out]; rfl), rfl⟩
end Go.Proofs.YthcboklkejlifaaGreatDoor
