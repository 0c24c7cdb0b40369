/- Texts of this claim, joined: Small, Run, Nam, Is. -/
import Derived.Test.YthcboklkejlifaaGreatDoorPart1
import Derived.Test.YthcboklkejlifaaGreatDoorPart0
import Derived.WalkKit
import Derived.WalkSpells
import Derived.Deep.QuietTactic
import Derived.BigQuiet
import Derived.Test.YthcboklkejlifaaGreatDoorProg
import Derived.LaidEql
import Derived.Stop.Asserts
import Derived.RowKitTokens
/- Contracts of the smallest functions of package lexis: what a byte may do, and where a run ends. -/
namespace Go.Proofs.YthcboklkejlifaaGreatDoor
open Go.RowKit
theorem isSmall_any (c : Int) (w : World) : Calls Tryz.prog 123 #[.int .u8 c] w fun e w' => e = .returned (.bool (Lx.smallZ c)) ∧ w' = w := by
  rcases (show c < 97 ∨ (97 ≤ c ∧ c ≤ 122) ∨ (97 ≤ c ∧ 122 < c) from by omega) with h | ⟨h1, h2⟩ | ⟨h1, h2⟩
  all_goals
    go_enter Tryz.func123, Tryz.ntmps123
    go_wp2
    go_ret
    exact ⟨by simp [Lx.smallZ]; omega, rfl⟩
theorem isGreat_any (c : Int) (w : World) : Calls Tryz.prog 124 #[.int .u8 c] w fun e w' => e = .returned (.bool (Lx.greatZ c)) ∧ w' = w := by
  rcases (show c < 65 ∨ (65 ≤ c ∧ c ≤ 90) ∨ (65 ≤ c ∧ 90 < c) from by omega) with h | ⟨h1, h2⟩ | ⟨h1, h2⟩
  all_goals
    go_enter Tryz.func124, Tryz.ntmps124
    go_wp2
    go_ret
    exact ⟨by simp [Lx.greatZ]; omega, rfl⟩
theorem isDigit_any (c : Int) (w : World) : Calls Tryz.prog 125 #[.int .u8 c] w fun e w' => e = .returned (.bool (Lx.digitZ c)) ∧ w' = w := by
  rcases (show c < 48 ∨ (48 ≤ c ∧ c ≤ 57) ∨ (48 ≤ c ∧ 57 < c) from by omega) with h | ⟨h1, h2⟩ | ⟨h1, h2⟩
  all_goals
    go_enter Tryz.func125, Tryz.ntmps125
    go_wp2
    go_ret
    exact ⟨by simp [Lx.digitZ]; omega, rfl⟩

theorem marks_at : ∀ n : Fin 256, decide (0 ≤ Lib.indexByte [61, 43, 124, 46, 92, 123, 125, 91, 93, 40, 41, 44, 47, 39, 60, 62, 126, 38, 45, 58, 59] (UInt8.ofNat n.val)) = Lx.markZ (n.val : Int) := by decide +kernel
theorem marks_of (c : Int) (h0 : 0 ≤ c) (h1 : c ≤ 255) : decide (0 ≤ Lib.indexByte [61, 43, 124, 46, 92, 123, 125, 91, 93, 40, 41, 44, 47, 39, 60, 62, 126, 38, 45, 58, 59] (UInt8.ofNat c.toNat)) = Lx.markZ c := by
  have h := marks_at ⟨c.toNat, by omega⟩
  simp only [Int.toNat_of_nonneg h0] at h
  exact h
theorem powers_any (c : Int) (w : World) (h0 : 0 ≤ c) (h1 : c ≤ 255) : Calls Tryz.prog 81 #[.int .u8 c] w fun e w' => e = .returned (.int .i64 (Lx.powZ c)) ∧ w' = w := by
  have hm := marks_of c h0 h1
  have b4 : bits BinOp.or IntKind.i64 0 4 = 4 := by decide
  have b6 : bits BinOp.or IntKind.i64 4 2 = 6 := by decide
  have b7 : bits BinOp.or IntKind.i64 6 1 = 7 := by decide
  have b2 : bits BinOp.or IntKind.i64 0 2 = 2 := by decide
  have b3 : bits BinOp.or IntKind.i64 2 1 = 3 := by decide
  have b1 : bits BinOp.or IntKind.i64 0 1 = 1 := by decide
  have b16 : bits BinOp.or IntKind.i64 0 16 = 16 := by decide
  have b32 : bits BinOp.or IntKind.i64 0 32 = 32 := by decide
  have b64 : bits BinOp.or IntKind.i64 0 64 = 64 := by decide
  have b8 : bits BinOp.or IntKind.i64 0 8 = 8 := by decide
  cases k1 : Lx.smallZ c with
  | true =>
    clear hm
    go_enter Tryz.func81, Tryz.ntmps81
    go_wp2_with (first | (go_at_call 123; refine (isSmall_any _ _).mono ?_; rintro e w' ⟨rfl, rfl⟩) | (go_at_call 124; refine (isGreat_any _ _).mono ?_; rintro e w' ⟨rfl, rfl⟩) | (go_at_call 125; refine (isDigit_any _ _).mono ?_; rintro e w' ⟨rfl, rfl⟩) | (go_at_call 126; refine (Tryz.strings_IndexByte _ _ _).mono ?_; rintro e w' ⟨rfl, rfl⟩))
    go_ret
    exact ⟨by simp [Lx.powZ, k1], rfl⟩
  | false =>
    cases k2 : Lx.greatZ c with
    | true =>
      clear hm
      go_enter Tryz.func81, Tryz.ntmps81
      go_wp2_with (first | (go_at_call 123; refine (isSmall_any _ _).mono ?_; rintro e w' ⟨rfl, rfl⟩) | (go_at_call 124; refine (isGreat_any _ _).mono ?_; rintro e w' ⟨rfl, rfl⟩) | (go_at_call 125; refine (isDigit_any _ _).mono ?_; rintro e w' ⟨rfl, rfl⟩) | (go_at_call 126; refine (Tryz.strings_IndexByte _ _ _).mono ?_; rintro e w' ⟨rfl, rfl⟩))
      go_ret
      exact ⟨by simp [Lx.powZ, k1, k2], rfl⟩
    | false =>
      cases k3 : Lx.digitZ c with
      | true =>
        clear hm
        go_enter Tryz.func81, Tryz.ntmps81
        go_wp2_with (first | (go_at_call 123; refine (isSmall_any _ _).mono ?_; rintro e w' ⟨rfl, rfl⟩) | (go_at_call 124; refine (isGreat_any _ _).mono ?_; rintro e w' ⟨rfl, rfl⟩) | (go_at_call 125; refine (isDigit_any _ _).mono ?_; rintro e w' ⟨rfl, rfl⟩) | (go_at_call 126; refine (Tryz.strings_IndexByte _ _ _).mono ?_; rintro e w' ⟨rfl, rfl⟩))
        go_ret
        exact ⟨by simp [Lx.powZ, k1, k2, k3], rfl⟩
      | false =>
        cases k4 : (c == 95) with
        | true =>
          clear hm
          go_enter Tryz.func81, Tryz.ntmps81
          go_wp2_with (first | (go_at_call 123; refine (isSmall_any _ _).mono ?_; rintro e w' ⟨rfl, rfl⟩) | (go_at_call 124; refine (isGreat_any _ _).mono ?_; rintro e w' ⟨rfl, rfl⟩) | (go_at_call 125; refine (isDigit_any _ _).mono ?_; rintro e w' ⟨rfl, rfl⟩) | (go_at_call 126; refine (Tryz.strings_IndexByte _ _ _).mono ?_; rintro e w' ⟨rfl, rfl⟩))
          go_ret
          exact ⟨by simp [Lx.powZ, k1, k2, k3, k4], rfl⟩
        | false =>
          cases k5 : (c == 32) with
          | true =>
            clear hm
            go_enter Tryz.func81, Tryz.ntmps81
            go_wp2_with (first | (go_at_call 123; refine (isSmall_any _ _).mono ?_; rintro e w' ⟨rfl, rfl⟩) | (go_at_call 124; refine (isGreat_any _ _).mono ?_; rintro e w' ⟨rfl, rfl⟩) | (go_at_call 125; refine (isDigit_any _ _).mono ?_; rintro e w' ⟨rfl, rfl⟩) | (go_at_call 126; refine (Tryz.strings_IndexByte _ _ _).mono ?_; rintro e w' ⟨rfl, rfl⟩))
            go_ret
            exact ⟨by simp [Lx.powZ, k1, k2, k3, k4, k5], rfl⟩
          | false =>
            cases k6 : (c == 9) with
            | true =>
              clear hm
              go_enter Tryz.func81, Tryz.ntmps81
              go_wp2_with (first | (go_at_call 123; refine (isSmall_any _ _).mono ?_; rintro e w' ⟨rfl, rfl⟩) | (go_at_call 124; refine (isGreat_any _ _).mono ?_; rintro e w' ⟨rfl, rfl⟩) | (go_at_call 125; refine (isDigit_any _ _).mono ?_; rintro e w' ⟨rfl, rfl⟩) | (go_at_call 126; refine (Tryz.strings_IndexByte _ _ _).mono ?_; rintro e w' ⟨rfl, rfl⟩))
              go_ret
              exact ⟨by simp [Lx.powZ, k1, k2, k3, k4, k5, k6], rfl⟩
            | false =>
              cases k7 : (c == 13) with
              | true =>
                clear hm
                go_enter Tryz.func81, Tryz.ntmps81
                go_wp2_with (first | (go_at_call 123; refine (isSmall_any _ _).mono ?_; rintro e w' ⟨rfl, rfl⟩) | (go_at_call 124; refine (isGreat_any _ _).mono ?_; rintro e w' ⟨rfl, rfl⟩) | (go_at_call 125; refine (isDigit_any _ _).mono ?_; rintro e w' ⟨rfl, rfl⟩) | (go_at_call 126; refine (Tryz.strings_IndexByte _ _ _).mono ?_; rintro e w' ⟨rfl, rfl⟩))
                go_ret
                exact ⟨by simp [Lx.powZ, k1, k2, k3, k4, k5, k6, k7], rfl⟩
              | false =>
                cases k8 : (c == 35) with
                | true =>
                  clear hm
                  go_enter Tryz.func81, Tryz.ntmps81
                  go_wp2_with (first | (go_at_call 123; refine (isSmall_any _ _).mono ?_; rintro e w' ⟨rfl, rfl⟩) | (go_at_call 124; refine (isGreat_any _ _).mono ?_; rintro e w' ⟨rfl, rfl⟩) | (go_at_call 125; refine (isDigit_any _ _).mono ?_; rintro e w' ⟨rfl, rfl⟩) | (go_at_call 126; refine (Tryz.strings_IndexByte _ _ _).mono ?_; rintro e w' ⟨rfl, rfl⟩))
                  go_ret
                  exact ⟨by simp [Lx.powZ, k1, k2, k3, k4, k5, k6, k7, k8], rfl⟩
                | false =>
                  cases k9 : (c == 10) with
                  | true =>
                    clear hm
                    go_enter Tryz.func81, Tryz.ntmps81
                    go_wp2_with (first | (go_at_call 123; refine (isSmall_any _ _).mono ?_; rintro e w' ⟨rfl, rfl⟩) | (go_at_call 124; refine (isGreat_any _ _).mono ?_; rintro e w' ⟨rfl, rfl⟩) | (go_at_call 125; refine (isDigit_any _ _).mono ?_; rintro e w' ⟨rfl, rfl⟩) | (go_at_call 126; refine (Tryz.strings_IndexByte _ _ _).mono ?_; rintro e w' ⟨rfl, rfl⟩))
                    go_ret
                    exact ⟨by simp [Lx.powZ, k1, k2, k3, k4, k5, k6, k7, k8, k9], rfl⟩
                  | false =>
                    cases k0 : Lx.markZ c with
                    | true =>
                      have hi : 0 ≤ Lib.indexByte [61, 43, 124, 46, 92, 123, 125, 91, 93, 40, 41, 44, 47, 39, 60, 62, 126, 38, 45, 58, 59] (UInt8.ofNat c.toNat) := by rw [k0] at hm; exact of_decide_eq_true hm
                      clear hm
                      go_enter Tryz.func81, Tryz.ntmps81
                      go_wp2_with (first | (go_at_call 123; refine (isSmall_any _ _).mono ?_; rintro e w' ⟨rfl, rfl⟩) | (go_at_call 124; refine (isGreat_any _ _).mono ?_; rintro e w' ⟨rfl, rfl⟩) | (go_at_call 125; refine (isDigit_any _ _).mono ?_; rintro e w' ⟨rfl, rfl⟩) | (go_at_call 126; refine (Tryz.strings_IndexByte _ _ _).mono ?_; rintro e w' ⟨rfl, rfl⟩))
                      go_ret
                      exact ⟨by simp [Lx.powZ, k1, k2, k3, k4, k5, k6, k7, k8, k9, k0], rfl⟩
                    | false =>
                      have hi : Lib.indexByte [61, 43, 124, 46, 92, 123, 125, 91, 93, 40, 41, 44, 47, 39, 60, 62, 126, 38, 45, 58, 59] (UInt8.ofNat c.toNat) < 0 := by rw [k0] at hm; have := of_decide_eq_false hm; omega
                      clear hm
                      go_enter Tryz.func81, Tryz.ntmps81
                      go_wp2_with (first | (go_at_call 123; refine (isSmall_any _ _).mono ?_; rintro e w' ⟨rfl, rfl⟩) | (go_at_call 124; refine (isGreat_any _ _).mono ?_; rintro e w' ⟨rfl, rfl⟩) | (go_at_call 125; refine (isDigit_any _ _).mono ?_; rintro e w' ⟨rfl, rfl⟩) | (go_at_call 126; refine (Tryz.strings_IndexByte _ _ _).mono ?_; rintro e w' ⟨rfl, rfl⟩))
                      go_ret
                      exact ⟨by simp [Lx.powZ, k1, k2, k3, k4, k5, k6, k7, k8, k9, k0], rfl⟩
end Go.Proofs.YthcboklkejlifaaGreatDoor
/- Contract of lexis.runEnd: it tells where the run of letters, digits and underscores that goes on at a place ends. -/
namespace Go.Proofs.YthcboklkejlifaaGreatDoor
open Go.RowKit
theorem ret_int {k : IntKind} {a b : Int} (h : a = b) : Ending.returned (.int k a) = .returned (.int k b) := by rw [h]
theorem and_one_of (p : Int) (h : p = 7 ∨ p = 3 ∨ p = 1) : bits BinOp.and IntKind.i64 p 1 = 1 := by
  rcases h with rfl | rfl | rfl <;> decide
theorem and_one_no (p : Int) (h : p = 16 ∨ p = 32 ∨ p = 64 ∨ p = 8 ∨ p = 0) : bits BinOp.and IntKind.i64 p 1 = 0 := by
  rcases h with rfl | rfl | rfl | rfl | rfl <;> decide
theorem pow_yes (c : Int) (h : Lx.goB c = true) : bits BinOp.and IntKind.i64 (Lx.powZ c) 1 = 1 := by
  apply and_one_of
  unfold Lx.powZ
  unfold Lx.goB at h
  cases h1 : (Lx.smallZ c || Lx.greatZ c) with
  | true => simp
  | false =>
    cases h2 : Lx.digitZ c with
    | true => simp
    | false =>
      rw [h1, h2] at h
      simp at h
      simp [h]
theorem pow_no (c : Int) (h : Lx.goB c = false) : bits BinOp.and IntKind.i64 (Lx.powZ c) 1 = 0 := by
  apply and_one_no
  unfold Lx.powZ
  unfold Lx.goB at h
  simp only [Bool.or_eq_false_iff] at h
  obtain ⟨⟨⟨h1, h2⟩, h3⟩, h4⟩ := h
  simp only [h1, h2, h3, h4, Bool.or_false, Bool.false_eq_true, if_false]
  split
  · simp
  · split
    · simp
    · split
      · simp
      · split <;> simp
theorem byte_range (s : ByteArray) (k : Nat) (h : k < s.size) : 0 ≤ ((s[k].toNat : Nat) : Int) ∧ ((s[k].toNat : Nat) : Int) ≤ 255 := by
  have := s[k].toNat_lt; omega
theorem list_at (s : ByteArray) (k : Nat) (h : k < s.size) : s.data.toList[k]'(by simpa using h) = s[k] := by rfl
set_option maxHeartbeats 400000 in
theorem runEnd_any (s : ByteArray) (k : Nat) (w : World) (hs : s.size ≤ maxLen) (hk : k ≤ s.size) :
    Calls Tryz.prog 82 #[.string s, .int .i64 k] w fun e w' => e = .returned (.int .i64 (Lx.runE s.data.toList k : Nat)) ∧ w' = w := by
  unfold maxLen at hs
  go_enter Tryz.func82, Tryz.ntmps82
  go_wp2
  go_loop [5] (fun i => ∃ j : Nat, j ≤ s.size ∧ i = .int .i64 j ∧ Lx.runE s.data.toList j = Lx.runE s.data.toList k) (fun i => s.size - (intOf i).toNat)
  case atStart => exact ⟨k, hk, rfl, rfl⟩
  case round =>
    obtain ⟨j, hj, rfl, hr⟩ := hrel
    have HR : Hid (Lx.runE s.data.toList j = Lx.runE s.data.toList k) := hr
    clear hr
    by_cases hlt : j < s.size
    · have hb := byte_range s j hlt
      have hl : j < s.data.toList.length := by simpa using hlt
      cases hg : Lx.goB (s[j].toNat : Int) with
      | true =>
        have hp := pow_yes _ hg
        go_wp2_with (go_at_call 81; refine (powers_any _ _ (by omega) (by omega)).mono ?_; rintro e w' ⟨rfl, rfl⟩)
        go_round
        case rel => exact ⟨j + 1, by omega, by go_num, by rw [Lx.runE_yes _ _ hl hg]; exact HR.out⟩
        case measure => simp [intOf]; omega
      | false =>
        have hp := pow_no _ hg
        go_wp2_with (go_at_call 81; refine (powers_any _ _ (by omega) (by omega)).mono ?_; rintro e w' ⟨rfl, rfl⟩)
        go_ret
        exact ⟨ret_int (by rw [← HR.out, Lx.runE_no _ _ hl hg]), rfl⟩
    · have hj' : j = s.size := by omega
      go_wp2
      go_ret
      exact ⟨ret_int (by rw [← HR.out]; subst hj'; have h9 := Lx.runE_end s.data.toList; rw [show s.data.toList.length = s.size from by simp] at h9; rw [h9]), rfl⟩
end Go.Proofs.YthcboklkejlifaaGreatDoor
/- Contract of lexis.IsName: what a name is. -/
namespace Go.Proofs.YthcboklkejlifaaGreatDoor
open Go.RowKit
namespace Lx
def allGo (l : List UInt8) : Bool := l.all fun x => goB (x.toNat : Int)
theorem runLen_all (l : List UInt8) : (runLen l = l.length) ↔ allGo l = true := by
  unfold allGo
  induction l with
  | nil => simp [runLen]
  | cons c r ih =>
    simp only [runLen, List.all_cons, Bool.and_eq_true, List.length_cons]
    cases h : goB (c.toNat : Int) with
    | true => simp only [if_true, Nat.add_right_cancel_iff, ih, true_and]
    | false => simp
theorem runE_all (l : List UInt8) : (runE l 0 = l.length) ↔ allGo l = true := by
  unfold runE
  simp only [List.drop_zero, Nat.zero_add]
  exact runLen_all l
theorem allGo_at (l : List UInt8) (h : allGo l = true) (k : Nat) (hk : k < l.length) : goB (l[k].toNat : Int) = true := by
  unfold allGo at h
  exact List.all_eq_true.1 h _ (List.getElem_mem hk)
theorem not_allGo (l : List UInt8) (k : Nat) (hk : k < l.length) (h : goB (l[k].toNat : Int) = false) : allGo l = false := by
  cases e : allGo l with
  | false => rfl
  | true => rw [allGo_at l e k hk] at h; cases h
theorem allGo_of (l : List UInt8) (h : ∀ k (hk : k < l.length), goB (l[k].toNat : Int) = true) : allGo l = true := by
  unfold allGo
  refine List.all_eq_true.2 fun x hx => ?_
  obtain ⟨k, hk, rfl⟩ := List.getElem_of_mem hx
  exact h k hk
def letterZ (c : Int) : Bool := smallZ c || greatZ c
/-- A name: not empty, not too long, wholly a run, and it begins with a small letter, or with a great one. -/
def nameZ (small : Bool) (s : ByteArray) : Bool := if h : 0 < s.size then decide (s.size ≤ 32) && allGo s.data.toList && (if small then smallZ (s[0].toNat : Int) else greatZ (s[0].toNat : Int)) else false
end Lx
theorem eqb_of {E n : Nat} {b : Bool} (h : E = n ↔ b = true) : ((E : Int) == (n : Int)) = b := by
  cases b with
  | true => rw [h.2 rfl]; simp
  | false =>
    refine beq_eq_false_iff_ne.2 fun e => ?_
    have h2 : E = n := by omega
    have h3 := h.1 h2
    cases h3
theorem ret_bool {a b : Bool} (h : a = b) : Ending.returned (.bool a) = .returned (.bool b) := by rw [h]
set_option maxHeartbeats 400000 in
theorem nameRun_any (s : ByteArray) (w : World) (hs : s.size ≤ maxLen) :
    Calls Tryz.prog 142 #[.string s] w fun e w' => e = .returned (.bool (decide (0 < s.size) && decide (s.size ≤ 32) && Lx.allGo s.data.toList)) ∧ w' = w := by
  have hC := runEnd_any s 0 w hs (Nat.zero_le _)
  unfold maxLen at hs
  have hlen : s.data.toList.length = s.size := by simp
  by_cases h0 : s.size = 0
  · obtain rfl : s = ⟨#[]⟩ := by apply ByteArray.ext; exact Array.eq_empty_of_size_eq_zero h0
    clear hC hlen h0
    go_enter Tryz.func142, Tryz.ntmps142
    go_wp2
    go_ret
    exact ⟨rfl, rfl⟩
  · have hp : 0 < s.size := by omega
    have e0 : s.toList = s.data.toList := ByteArray.toList_eq s
    have e1 : ¬ s.toList = [] := by
      rw [e0]; intro h; have h := congrArg List.length h; simp at h; exact h0 (by rw [h]; rfl)
    have e2 : s.toList.isEmpty = false := by simpa using e1
    have d0 : decide (0 < s.size) = true := by simpa using hp
    rw [d0, Bool.true_and]
    clear e0 d0
    by_cases h32 : s.size ≤ 32
    · have q : (s.size : Int) ≤ 32 := by omega
      have d1 : decide (s.size ≤ 32) = true := by simpa using h32
      rw [d1, Bool.true_and]
      have hr := Lx.runE_all s.data.toList
      rw [hlen] at hr
      obtain ⟨E, hE⟩ : ∃ E, E = Lx.runE s.data.toList 0 := ⟨_, rfl⟩
      rw [← hE] at hr hC
      have HB : Hid (((E : Int) == (s.size : Int)) = Lx.allGo s.data.toList) := eqb_of hr
      clear hr hE hlen d1
      go_enter Tryz.func142, Tryz.ntmps142
      go_wp2_with (go_at_call 82; refine hC.mono ?_; rintro e w' ⟨rfl, rfl⟩)
      go_ret
      exact ⟨ret_bool HB.out, rfl⟩
    · have q : ¬ (s.size : Int) ≤ 32 := by omega
      have d1 : decide (s.size ≤ 32) = false := by simpa using h32
      rw [d1, Bool.false_and]
      clear d1 hC hlen
      go_enter Tryz.func142, Tryz.ntmps142
      go_wp2
      go_ret
      exact ⟨rfl, rfl⟩
theorem nameZ_eq (small : Bool) (s : ByteArray) (h : 0 < s.size) : Lx.nameZ small s = (decide (s.size ≤ 32) && Lx.allGo s.data.toList && (if small then Lx.smallZ (s[0].toNat : Int) else Lx.greatZ (s[0].toNat : Int))) := by simp [Lx.nameZ, h]
set_option maxHeartbeats 400000 in
theorem isName_any (s : ByteArray) (w : World) (hs : s.size ≤ maxLen) :
    Calls Tryz.prog 131 #[.string s] w fun e w' => e = .returned (.bool (Lx.nameZ true s)) ∧ w' = w := by
  have hC := nameRun_any s w hs
  unfold maxLen at hs
  by_cases hp : 0 < s.size
  · rw [nameZ_eq _ _ hp]
    have d0 : decide (0 < s.size) = true := by simpa using hp
    rw [d0, Bool.true_and] at hC
    generalize (decide (s.size ≤ 32) && Lx.allGo s.data.toList) = B at hC ⊢
    clear d0
    have q0 : (0 : Int) < (s.size : Int) := by omega
    cases B with
    | true =>
      go_enter Tryz.func131, Tryz.ntmps131
      go_wp2_with (first | (go_at_call 142; refine hC.mono ?_; rintro e w' ⟨rfl, rfl⟩) | (go_at_call 123; refine (isSmall_any _ _).mono ?_; rintro e w' ⟨rfl, rfl⟩))
      go_ret
      exact ⟨rfl, rfl⟩
    | false =>
      go_enter Tryz.func131, Tryz.ntmps131
      go_wp2_with (first | (go_at_call 142; refine hC.mono ?_; rintro e w' ⟨rfl, rfl⟩))
      go_ret
      exact ⟨rfl, rfl⟩
  · have d0 : decide (0 < s.size) = false := by simpa using hp
    rw [d0, Bool.false_and, Bool.false_and] at hC
    have hz : Lx.nameZ true s = false := by simp [Lx.nameZ, hp]
    rw [hz]
    clear d0 hz
    go_enter Tryz.func131, Tryz.ntmps131
    go_wp2_with (first | (go_at_call 142; refine hC.mono ?_; rintro e w' ⟨rfl, rfl⟩))
    go_ret
    exact ⟨rfl, rfl⟩
end Go.Proofs.YthcboklkejlifaaGreatDoor
/- errors.Is at a fault of package api that wraps one of api's errors, and a target that is one of api's errors: true just if it is that one. -/
namespace Go.Proofs.YthcboklkejlifaaGreatDoor
open Go.RowKit Go.Extern.Stop Go.Stop Go.Extern
theorem Tryz.isTypeOf (v : Value) (w : World) : (Extern.ReflectliteType.typeOf #[.iface 194 v]).run Tryz.prog w = .ok (.iface 183 (.agg #[.pointer (some ⟨20, 194, none⟩)])) w := by kernel_rfl
/-- The model's entry for reflectlite's Comparable. -/
def cmpEntry : Array Value → Sem Value := Extern.ReflectliteType.method fun t => do
  Rtype.noPackHeld "Comparable" t
  pure (.bool (← typeInfo t).comparable)
theorem Tryz.isComparable (w : World) : (cmpEntry #[.agg #[.pointer (some ⟨20, 194, none⟩)]]).run Tryz.prog w = .ok (.bool true) w := by kernel_rfl
theorem Tryz.isMethodComparable (v : Value) (w : World) : (Go.method 330 183 v "Comparable").run Tryz.prog w = .ok (167, v) w := by kernel_rfl
theorem Tryz.isComp : (Tryz.prog.info? 194).map (·.comparable) = some true := by kernel_rfl
theorem Tryz.isSize : (Tryz.prog.info? 218).map (·.size) = some 1 := by kernel_rfl
theorem Tryz.noIsE (v : Value) (xT : TypeId) (w : World) : (Instr.typeAssert (.iface 194 v) xT 185 true).run Tryz.prog w = .ok (.tuple #[.nilIface, .bool false]) w := run_typeAssert_lacksB Tryz.underlying185 (by kernel_rfl) (by kernel_rfl) v xT w
theorem Tryz.noUnwrapE (v : Value) (xT : TypeId) (w : World) : (Instr.typeAssert (.iface 194 v) xT 188 true).run Tryz.prog w = .ok (.tuple #[.nilIface, .bool false]) w := run_typeAssert_lacksB Tryz.underlying188 (by kernel_rfl) (by kernel_rfl) v xT w
theorem Tryz.noUnwrapsE (v : Value) (xT : TypeId) (w : World) : (Instr.typeAssert (.iface 194 v) xT 189 true).run Tryz.prog w = .ok (.tuple #[.nilIface, .bool false]) w := run_typeAssert_lacksB Tryz.underlying189 (by kernel_rfl) (by kernel_rfl) v xT w
theorem Tryz.noIsW (v : Value) (xT : TypeId) (w : World) : (Instr.typeAssert (.iface 58 v) xT 185 true).run Tryz.prog w = .ok (.tuple #[.nilIface, .bool false]) w := run_typeAssert_lacksB Tryz.underlying185 (by kernel_rfl) (by kernel_rfl) v xT w
theorem Tryz.hasUnwrapW (v : Value) (xT : TypeId) (w : World) : (Instr.typeAssert (.iface 58 v) xT 188 true).run Tryz.prog w = .ok (.tuple #[.iface 58 v, .bool true]) w := run_typeAssert_hasB Tryz.underlying188 (by kernel_rfl) v xT w
theorem Tryz.methodUnwrap (v : Value) (w : World) : (Go.method 330 58 v "Unwrap").run Tryz.prog w = .ok (163, v) w := by kernel_rfl

set_option maxHeartbeats 1000000 in
/-- errors.Is(f, x), f a fault that wraps x itself. -/
theorem is_fault_same (pb : Nat) (b : Addr) (w : World) (h1 : w.cell? ⟨pb, 3, none⟩ = some (.iface 194 (.pointer (some b)))) :
    Calls Tryz.prog 85 #[.iface 58 (.pointer (some ⟨pb, 0, none⟩)), .iface 194 (.pointer (some b))] w fun e w' => e = .returned (.bool true) ∧ w' = w := by
  obtain ⟨i, hi, hcmp⟩ := Option.map_eq_some_iff.1 Tryz.isComp
  obtain ⟨j, hj, hjs⟩ := Option.map_eq_some_iff.1 Tryz.isSize
  have h8 := @run_callFunc_extern Tryz.prog 128 _ Extern.ReflectliteType.typeOf Tryz.func128 (by kernel_rfl) (by kernel_rfl) (by kernel_rfl) (by kernel_rfl)
  have h32 := @run_callFunc_extern Tryz.prog 167 _ cmpEntry Tryz.func167 (by kernel_rfl) (by kernel_rfl) (by kernel_rfl) (by kernel_rfl)
  have tT := Tryz.isTypeOf
  have cT := Tryz.isComparable
  have mR := Tryz.isMethodComparable
  have nE := Tryz.noIsE
  have uE := Tryz.noUnwrapE
  have vE := Tryz.noUnwrapsE
  have nW := Tryz.noIsW
  have uW := Tryz.hasUnwrapW
  have mU := Tryz.methodUnwrap
  have heq := run_eql_iface_ptr_same (P := Tryz.prog) w b Tryz.underlying40 Tryz.underlying194 hi hcmp hj
  have hty := run_eql_iface_types (P := Tryz.prog) 58 194 (.pointer (some ⟨pb, 0, none⟩)) (.pointer (some b)) Tryz.underlying40 (by decide) w
  go_enter Tryz.func85, Tryz.ntmps85
  go_wp2
  refine wp_loop_rounds 2 ?_
  rw [rounds_succ]
  go_wp2
  rw [rounds_succ]
  go_wp2
  go_ret
  exact ⟨rfl, rfl⟩
set_option maxHeartbeats 1000000 in
/-- errors.Is(f, x), f a fault that wraps another one of api's errors. -/
theorem is_fault_other (pb : Nat) (b a : Addr) (ca cb : Array Value) (ta tb : TypeId) (w : World) (h1 : w.cell? ⟨pb, 3, none⟩ = some (.iface 194 (.pointer (some a)))) (hne : a ≠ b) (ha : w.heap[a.block]? = some (.cells ca ta (0, 0))) (hb : w.heap[b.block]? = some (.cells cb tb (0, 0))) :
    Calls Tryz.prog 85 #[.iface 58 (.pointer (some ⟨pb, 0, none⟩)), .iface 194 (.pointer (some b))] w fun e w' => e = .returned (.bool false) ∧ w' = w := by
  obtain ⟨i, hi, hcmp⟩ := Option.map_eq_some_iff.1 Tryz.isComp
  obtain ⟨j, hj, hjs⟩ := Option.map_eq_some_iff.1 Tryz.isSize
  have h8 := @run_callFunc_extern Tryz.prog 128 _ Extern.ReflectliteType.typeOf Tryz.func128 (by kernel_rfl) (by kernel_rfl) (by kernel_rfl) (by kernel_rfl)
  have h32 := @run_callFunc_extern Tryz.prog 167 _ cmpEntry Tryz.func167 (by kernel_rfl) (by kernel_rfl) (by kernel_rfl) (by kernel_rfl)
  have tT := Tryz.isTypeOf
  have cT := Tryz.isComparable
  have mR := Tryz.isMethodComparable
  have nE := Tryz.noIsE
  have uE := Tryz.noUnwrapE
  have vE := Tryz.noUnwrapsE
  have nW := Tryz.noIsW
  have uW := Tryz.hasUnwrapW
  have mU := Tryz.methodUnwrap
  have heq := run_eql_iface_ptr_other (P := Tryz.prog) w Tryz.underlying40 Tryz.underlying194 hi hcmp hj (by rw [hjs]; decide) hne ha hb
  have hty := run_eql_iface_types (P := Tryz.prog) 58 194 (.pointer (some ⟨pb, 0, none⟩)) (.pointer (some b)) Tryz.underlying40 (by decide) w
  go_enter Tryz.func85, Tryz.ntmps85
  go_wp2
  refine wp_loop_rounds 2 ?_
  rw [rounds_succ]
  go_wp2
  rw [rounds_succ]
  go_wp2
  go_ret
  exact ⟨rfl, rfl⟩
end Go.Proofs.YthcboklkejlifaaGreatDoor
