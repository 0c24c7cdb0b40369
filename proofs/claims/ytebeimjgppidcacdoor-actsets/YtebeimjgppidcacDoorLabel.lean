/- Contracts of package act's Label, NameOf and Co. -/
import Derived.Test.YtebeimjgppidcacDoorProg
import Derived.WalkKit
import Derived.WalkSpells
namespace Go.Proofs.YtebeimjgppidcacDoor
open Go.RowKit
namespace Ac
def isN (c : Int) : Bool := decide (0 ≤ c ∧ c < 100)
def label (n : Int) (co : Bool) : Int := if 0 ≤ n ∧ n < 100 then (if co then 2 * n + 2 else 2 * n + 1) else 0
def named (l : Int) : Bool := decide (0 < l ∧ l < 201)
def nameN (l : Int) : Int := if 0 < l ∧ l < 201 then (l - 1) / 2 else 0
def nameC (l : Int) : Bool := decide (0 < l ∧ l < 201 ∧ l % 2 = 0)
def co (l : Int) : Int := if 0 < l ∧ l < 201 then label (nameN l) (!nameC l) else 0
end Ac
theorem ret_int' {a b : Int} (h : a = b) : Ending.returned (.int .i64 a) = .returned (.int .i64 b) := by rw [h]
theorem actName_any (c : Int) (w : World) : Calls Tryd.prog 36 #[.int .i64 c] w fun e w' => e = .returned (.bool (Ac.isN c)) ∧ w' = w := by
  rcases (show c < 0 ∨ (0 ≤ c ∧ c < 100) ∨ (0 ≤ c ∧ 100 ≤ c) from by omega) with h | ⟨h1, h2⟩ | ⟨h1, h2⟩
  all_goals
    go_enter Tryd.func36, Tryd.ntmps36
    go_wp2
    go_ret
    exact ⟨by simp [Ac.isN]; omega, rfl⟩
theorem label_any (n : Int) (co : Bool) (w : World) : Calls Tryd.prog 33 #[.int .i64 n, .bool co] w fun e w' => e = .returned (.int .i64 (Ac.label n co)) ∧ w' = w := by
  cases h : Ac.isN n with
  | false =>
    have H : Hid (Ac.label n co = 0) := (by unfold Ac.label; rw [if_neg (by simpa [Ac.isN] using h)] : Ac.label n co = 0)
    go_enter Tryd.func33, Tryd.ntmps33
    go_wp2_with (go_at_call 36; refine (actName_any _ _).mono ?_; rintro e w' ⟨rfl, rfl⟩)
    go_ret
    exact ⟨ret_int' H.out.symm, rfl⟩
  | true =>
    have h2 : 0 ≤ n ∧ n < 100 := by simpa [Ac.isN] using h
    obtain ⟨h0, h1⟩ := h2
    cases co with
    | true =>
      have H : Hid (Ac.label n true = 2 * n + 2) := (by unfold Ac.label; rw [if_pos ⟨h0, h1⟩]; rfl : Ac.label n true = 2 * n + 2)
      go_enter Tryd.func33, Tryd.ntmps33
      go_wp2_with (go_at_call 36; refine (actName_any _ _).mono ?_; rintro e w' ⟨rfl, rfl⟩)
      go_ret
      exact ⟨ret_int' H.out.symm, rfl⟩
    | false =>
      have H : Hid (Ac.label n false = 2 * n + 1) := (by unfold Ac.label; rw [if_pos ⟨h0, h1⟩]; rfl : Ac.label n false = 2 * n + 1)
      go_enter Tryd.func33, Tryd.ntmps33
      go_wp2_with (go_at_call 36; refine (actName_any _ _).mono ?_; rintro e w' ⟨rfl, rfl⟩)
      go_ret
      exact ⟨ret_int' H.out.symm, rfl⟩
theorem nameOf_any (l : Int) (w : World) : Calls Tryd.prog 32 #[.int .i64 l] w fun e w' => e = .returned (.tuple #[.int .i64 (Ac.nameN l), .bool (Ac.nameC l), .bool (Ac.named l)]) ∧ w' = w := by
  by_cases h0 : l ≤ 0
  · have H : Hid (Ac.nameN l = 0 ∧ Ac.nameC l = false ∧ Ac.named l = false) := ⟨by unfold Ac.nameN; rw [if_neg (by omega)], by simp [Ac.nameC]; omega, by simp [Ac.named]; omega⟩
    go_enter Tryd.func32, Tryd.ntmps32
    go_wp2
    rw [H.out.1, H.out.2.1, H.out.2.2]
    exact bodyPost_ret (by simp [results, Tryd.results32, go_sem]) rfl ⟨rfl, rfl⟩
  · by_cases h1 : 201 ≤ l
    · have H : Hid (Ac.nameN l = 0 ∧ Ac.nameC l = false ∧ Ac.named l = false) := ⟨by unfold Ac.nameN; rw [if_neg (by omega)], by simp [Ac.nameC]; omega, by simp [Ac.named]; omega⟩
      go_enter Tryd.func32, Tryd.ntmps32
      go_wp2
      rw [H.out.1, H.out.2.1, H.out.2.2]
      exact bodyPost_ret (by simp [results, Tryd.results32, go_sem]) rfl ⟨rfl, rfl⟩
    · obtain ⟨n, rfl⟩ : ∃ n : Nat, l = n := ⟨l.toNat, by omega⟩
      have hq : ((n : Int) - 1).tdiv 2 = ((n : Int) - 1) / 2 := Int.tdiv_eq_ediv_of_nonneg (by omega)
      have hr : (n : Int).tmod 2 = (n : Int) % 2 := Int.tmod_eq_emod_of_nonneg (by omega)
      by_cases h2 : (n : Int) % 2 = 0
      · have H : Hid (Ac.nameN n = ((n : Int) - 1) / 2 ∧ Ac.nameC n = true ∧ Ac.named n = true) := ⟨by unfold Ac.nameN; rw [if_pos (by omega)], by simp [Ac.nameC]; omega, by simp [Ac.named]; omega⟩
        have hb : ((n : Int).tmod 2 == 0) = true := by rw [hr, h2]; rfl
        go_enter Tryd.func32, Tryd.ntmps32
        go_wp2
        rw [H.out.1, H.out.2.1, H.out.2.2, ← hq]
        exact bodyPost_ret (by simp [results, Tryd.results32, go_sem]) rfl ⟨rfl, rfl⟩
      · have H : Hid (Ac.nameN n = ((n : Int) - 1) / 2 ∧ Ac.nameC n = false ∧ Ac.named n = true) := ⟨by unfold Ac.nameN; rw [if_pos (by omega)], by simp [Ac.nameC]; omega, by simp [Ac.named]; omega⟩
        have hb : ((n : Int).tmod 2 == 0) = false := by rw [hr]; simp; omega
        go_enter Tryd.func32, Tryd.ntmps32
        go_wp2
        rw [H.out.1, H.out.2.1, H.out.2.2, ← hq]
        exact bodyPost_ret (by simp [results, Tryd.results32, go_sem]) rfl ⟨rfl, rfl⟩
end Go.Proofs.YtebeimjgppidcacDoor
