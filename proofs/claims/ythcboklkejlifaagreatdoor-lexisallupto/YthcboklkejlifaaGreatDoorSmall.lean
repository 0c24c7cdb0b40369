/- Contracts of the smallest functions of package lexis: what a byte may do, and where a run ends. -/
import Derived.Test.YthcboklkejlifaaGreatDoorPure
import Derived.Test.YthcboklkejlifaaGreatDoorShelf
import Derived.WalkKit
import Derived.WalkSpells
namespace Go.Proofs.YthcboklkejlifaaGreatDoor
open Go.RowKit
theorem isSmall_any (c : Int) (w : World) : Calls Tryz.prog 123 #[.int .u8 c] w fun e w' => e = .returned (.bool (Lx.smallZ c)) ∧ w' = w := by
  rcases (show c < 97 ∨ (97 ≤ c ∧ c ≤ 122) ∨ (97 ≤ c ∧ 122 < c) from by omega) with h | ⟨h1, h2⟩ | ⟨h1, h2⟩
  all_goals
    go_enter Tryz.func123, Tryz.ntmps123
    go_wp2
    go_ret
    exact ⟨by simp [Lx.smallZ]; omega, rfl⟩
theorem isGreat_any (c : Int) (w : World) : Calls Tryz.prog 124 #[.int .u8 c] w fun e w' => e = .returned (.bool (Lx.greatZ c)) ∧ w' = w := by
  rcases (show c < 65 ∨ (65 ≤ c ∧ c ≤ 90) ∨ (65 ≤ c ∧ 90 < c) from by omega) with h | ⟨h1, h2⟩ | ⟨h1, h2⟩
  all_goals
    go_enter Tryz.func124, Tryz.ntmps124
    go_wp2
    go_ret
    exact ⟨by simp [Lx.greatZ]; omega, rfl⟩
theorem isDigit_any (c : Int) (w : World) : Calls Tryz.prog 125 #[.int .u8 c] w fun e w' => e = .returned (.bool (Lx.digitZ c)) ∧ w' = w := by
  rcases (show c < 48 ∨ (48 ≤ c ∧ c ≤ 57) ∨ (48 ≤ c ∧ 57 < c) from by omega) with h | ⟨h1, h2⟩ | ⟨h1, h2⟩
  all_goals
    go_enter Tryz.func125, Tryz.ntmps125
    go_wp2
    go_ret
    exact ⟨by simp [Lx.digitZ]; omega, rfl⟩

theorem marks_at : ∀ n : Fin 256, decide (0 ≤ Lib.indexByte [61, 43, 124, 46, 92, 123, 125, 91, 93, 40, 41, 44, 47, 39, 60, 62, 126, 38, 45, 58, 59] (UInt8.ofNat n.val)) = Lx.markZ (n.val : Int) := by decide +kernel
theorem marks_of (c : Int) (h0 : 0 ≤ c) (h1 : c ≤ 255) : decide (0 ≤ Lib.indexByte [61, 43, 124, 46, 92, 123, 125, 91, 93, 40, 41, 44, 47, 39, 60, 62, 126, 38, 45, 58, 59] (UInt8.ofNat c.toNat)) = Lx.markZ c := by
  have h := marks_at ⟨c.toNat, by omega⟩
  simp only [Int.toNat_of_nonneg h0] at h
  exact h
theorem powers_any (c : Int) (w : World) (h0 : 0 ≤ c) (h1 : c ≤ 255) : Calls Tryz.prog 81 #[.int .u8 c] w fun e w' => e = .returned (.int .i64 (Lx.powZ c)) ∧ w' = w := by
  have hm := marks_of c h0 h1
  have b4 : bits BinOp.or IntKind.i64 0 4 = 4 := by decide
  have b6 : bits BinOp.or IntKind.i64 4 2 = 6 := by decide
  have b7 : bits BinOp.or IntKind.i64 6 1 = 7 := by decide
  have b2 : bits BinOp.or IntKind.i64 0 2 = 2 := by decide
  have b3 : bits BinOp.or IntKind.i64 2 1 = 3 := by decide
  have b1 : bits BinOp.or IntKind.i64 0 1 = 1 := by decide
  have b16 : bits BinOp.or IntKind.i64 0 16 = 16 := by decide
  have b32 : bits BinOp.or IntKind.i64 0 32 = 32 := by decide
  have b64 : bits BinOp.or IntKind.i64 0 64 = 64 := by decide
  have b8 : bits BinOp.or IntKind.i64 0 8 = 8 := by decide
  cases k1 : Lx.smallZ c with
  | true =>
    clear hm
    go_enter Tryz.func81, Tryz.ntmps81
    go_wp2_with (first | (go_at_call 123; refine (isSmall_any _ _).mono ?_; rintro e w' ⟨rfl, rfl⟩) | (go_at_call 124; refine (isGreat_any _ _).mono ?_; rintro e w' ⟨rfl, rfl⟩) | (go_at_call 125; refine (isDigit_any _ _).mono ?_; rintro e w' ⟨rfl, rfl⟩) | (go_at_call 126; refine (Tryz.strings_IndexByte _ _ _).mono ?_; rintro e w' ⟨rfl, rfl⟩))
    go_ret
    exact ⟨by simp [Lx.powZ, k1], rfl⟩
  | false =>
    cases k2 : Lx.greatZ c with
    | true =>
      clear hm
      go_enter Tryz.func81, Tryz.ntmps81
      go_wp2_with (first | (go_at_call 123; refine (isSmall_any _ _).mono ?_; rintro e w' ⟨rfl, rfl⟩) | (go_at_call 124; refine (isGreat_any _ _).mono ?_; rintro e w' ⟨rfl, rfl⟩) | (go_at_call 125; refine (isDigit_any _ _).mono ?_; rintro e w' ⟨rfl, rfl⟩) | (go_at_call 126; refine (Tryz.strings_IndexByte _ _ _).mono ?_; rintro e w' ⟨rfl, rfl⟩))
      go_ret
      exact ⟨by simp [Lx.powZ, k1, k2], rfl⟩
    | false =>
      cases k3 : Lx.digitZ c with
      | true =>
        clear hm
        go_enter Tryz.func81, Tryz.ntmps81
        go_wp2_with (first | (go_at_call 123; refine (isSmall_any _ _).mono ?_; rintro e w' ⟨rfl, rfl⟩) | (go_at_call 124; refine (isGreat_any _ _).mono ?_; rintro e w' ⟨rfl, rfl⟩) | (go_at_call 125; refine (isDigit_any _ _).mono ?_; rintro e w' ⟨rfl, rfl⟩) | (go_at_call 126; refine (Tryz.strings_IndexByte _ _ _).mono ?_; rintro e w' ⟨rfl, rfl⟩))
        go_ret
        exact ⟨by simp [Lx.powZ, k1, k2, k3], rfl⟩
      | false =>
        cases k4 : (c == 95) with
        | true =>
          clear hm
          go_enter Tryz.func81, Tryz.ntmps81
          go_wp2_with (first | (go_at_call 123; refine (isSmall_any _ _).mono ?_; rintro e w' ⟨rfl, rfl⟩) | (go_at_call 124; refine (isGreat_any _ _).mono ?_; rintro e w' ⟨rfl, rfl⟩) | (go_at_call 125; refine (isDigit_any _ _).mono ?_; rintro e w' ⟨rfl, rfl⟩) | (go_at_call 126; refine (Tryz.strings_IndexByte _ _ _).mono ?_; rintro e w' ⟨rfl, rfl⟩))
          go_ret
          exact ⟨by simp [Lx.powZ, k1, k2, k3, k4], rfl⟩
        | false =>
          cases k5 : (c == 32) with
          | true =>
            clear hm
            go_enter Tryz.func81, Tryz.ntmps81
            go_wp2_with (first | (go_at_call 123; refine (isSmall_any _ _).mono ?_; rintro e w' ⟨rfl, rfl⟩) | (go_at_call 124; refine (isGreat_any _ _).mono ?_; rintro e w' ⟨rfl, rfl⟩) | (go_at_call 125; refine (isDigit_any _ _).mono ?_; rintro e w' ⟨rfl, rfl⟩) | (go_at_call 126; refine (Tryz.strings_IndexByte _ _ _).mono ?_; rintro e w' ⟨rfl, rfl⟩))
            go_ret
            exact ⟨by simp [Lx.powZ, k1, k2, k3, k4, k5], rfl⟩
          | false =>
            cases k6 : (c == 9) with
            | true =>
              clear hm
              go_enter Tryz.func81, Tryz.ntmps81
              go_wp2_with (first | (go_at_call 123; refine (isSmall_any _ _).mono ?_; rintro e w' ⟨rfl, rfl⟩) | (go_at_call 124; refine (isGreat_any _ _).mono ?_; rintro e w' ⟨rfl, rfl⟩) | (go_at_call 125; refine (isDigit_any _ _).mono ?_; rintro e w' ⟨rfl, rfl⟩) | (go_at_call 126; refine (Tryz.strings_IndexByte _ _ _).mono ?_; rintro e w' ⟨rfl, rfl⟩))
              go_ret
              exact ⟨by simp [Lx.powZ, k1, k2, k3, k4, k5, k6], rfl⟩
            | false =>
              cases k7 : (c == 13) with
              | true =>
                clear hm
                go_enter Tryz.func81, Tryz.ntmps81
                go_wp2_with (first | (go_at_call 123; refine (isSmall_any _ _).mono ?_; rintro e w' ⟨rfl, rfl⟩) | (go_at_call 124; refine (isGreat_any _ _).mono ?_; rintro e w' ⟨rfl, rfl⟩) | (go_at_call 125; refine (isDigit_any _ _).mono ?_; rintro e w' ⟨rfl, rfl⟩) | (go_at_call 126; refine (Tryz.strings_IndexByte _ _ _).mono ?_; rintro e w' ⟨rfl, rfl⟩))
                go_ret
                exact ⟨by simp [Lx.powZ, k1, k2, k3, k4, k5, k6, k7], rfl⟩
              | false =>
                cases k8 : (c == 35) with
                | true =>
                  clear hm
                  go_enter Tryz.func81, Tryz.ntmps81
                  go_wp2_with (first | (go_at_call 123; refine (isSmall_any _ _).mono ?_; rintro e w' ⟨rfl, rfl⟩) | (go_at_call 124; refine (isGreat_any _ _).mono ?_; rintro e w' ⟨rfl, rfl⟩) | (go_at_call 125; refine (isDigit_any _ _).mono ?_; rintro e w' ⟨rfl, rfl⟩) | (go_at_call 126; refine (Tryz.strings_IndexByte _ _ _).mono ?_; rintro e w' ⟨rfl, rfl⟩))
                  go_ret
                  exact ⟨by simp [Lx.powZ, k1, k2, k3, k4, k5, k6, k7, k8], rfl⟩
                | false =>
                  cases k9 : (c == 10) with
                  | true =>
                    clear hm
                    go_enter Tryz.func81, Tryz.ntmps81
                    go_wp2_with (first | (go_at_call 123; refine (isSmall_any _ _).mono ?_; rintro e w' ⟨rfl, rfl⟩) | (go_at_call 124; refine (isGreat_any _ _).mono ?_; rintro e w' ⟨rfl, rfl⟩) | (go_at_call 125; refine (isDigit_any _ _).mono ?_; rintro e w' ⟨rfl, rfl⟩) | (go_at_call 126; refine (Tryz.strings_IndexByte _ _ _).mono ?_; rintro e w' ⟨rfl, rfl⟩))
                    go_ret
                    exact ⟨by simp [Lx.powZ, k1, k2, k3, k4, k5, k6, k7, k8, k9], rfl⟩
                  | false =>
                    cases k0 : Lx.markZ c with
                    | true =>
                      have hi : 0 ≤ Lib.indexByte [61, 43, 124, 46, 92, 123, 125, 91, 93, 40, 41, 44, 47, 39, 60, 62, 126, 38, 45, 58, 59] (UInt8.ofNat c.toNat) := by rw [k0] at hm; exact of_decide_eq_true hm
                      clear hm
                      go_enter Tryz.func81, Tryz.ntmps81
                      go_wp2_with (first | (go_at_call 123; refine (isSmall_any _ _).mono ?_; rintro e w' ⟨rfl, rfl⟩) | (go_at_call 124; refine (isGreat_any _ _).mono ?_; rintro e w' ⟨rfl, rfl⟩) | (go_at_call 125; refine (isDigit_any _ _).mono ?_; rintro e w' ⟨rfl, rfl⟩) | (go_at_call 126; refine (Tryz.strings_IndexByte _ _ _).mono ?_; rintro e w' ⟨rfl, rfl⟩))
                      go_ret
                      exact ⟨by simp [Lx.powZ, k1, k2, k3, k4, k5, k6, k7, k8, k9, k0], rfl⟩
                    | false =>
                      have hi : Lib.indexByte [61, 43, 124, 46, 92, 123, 125, 91, 93, 40, 41, 44, 47, 39, 60, 62, 126, 38, 45, 58, 59] (UInt8.ofNat c.toNat) < 0 := by rw [k0] at hm; have := of_decide_eq_false hm; omega
                      clear hm
                      go_enter Tryz.func81, Tryz.ntmps81
                      go_wp2_with (first | (go_at_call 123; refine (isSmall_any _ _).mono ?_; rintro e w' ⟨rfl, rfl⟩) | (go_at_call 124; refine (isGreat_any _ _).mono ?_; rintro e w' ⟨rfl, rfl⟩) | (go_at_call 125; refine (isDigit_any _ _).mono ?_; rintro e w' ⟨rfl, rfl⟩) | (go_at_call 126; refine (Tryz.strings_IndexByte _ _ _).mono ?_; rintro e w' ⟨rfl, rfl⟩))
                      go_ret
                      exact ⟨by simp [Lx.powZ, k1, k2, k3, k4, k5, k6, k7, k8, k9, k0], rfl⟩
end Go.Proofs.YthcboklkejlifaaGreatDoor
