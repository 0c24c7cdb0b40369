/- Contracts of the document's own Label and NameOf. -/
import Derived.Test.YtebeimjgppidcacDoorLabel
namespace Go.Proofs.YtebeimjgppidcacDoor
open Go.RowKit
theorem refLabel_any (n : Int) (co : Bool) (w : World) : Calls Tryd.prog 41 #[.int .i64 n, .bool co] w fun e w' => e = .returned (.int .i64 (Ac.label n co)) ∧ w' = w := by
  by_cases h0 : n < 0
  · have H : Hid (Ac.label n co = 0) := (by unfold Ac.label; rw [if_neg (by omega)] : Ac.label n co = 0)
    go_enter Tryd.func41, Tryd.ntmps41
    go_wp2
    go_ret
    exact ⟨ret_int' H.out.symm, rfl⟩
  · by_cases h1 : 100 ≤ n
    · have H : Hid (Ac.label n co = 0) := (by unfold Ac.label; rw [if_neg (by omega)] : Ac.label n co = 0)
      go_enter Tryd.func41, Tryd.ntmps41
      go_wp2
      go_ret
      exact ⟨ret_int' H.out.symm, rfl⟩
    · cases co with
      | true =>
        have H : Hid (Ac.label n true = 2 * n + 2) := (by unfold Ac.label; rw [if_pos ⟨by omega, by omega⟩]; rfl : Ac.label n true = 2 * n + 2)
        go_enter Tryd.func41, Tryd.ntmps41
        go_wp2
        go_ret
        exact ⟨ret_int' H.out.symm, rfl⟩
      | false =>
        have H : Hid (Ac.label n false = 2 * n + 1) := (by unfold Ac.label; rw [if_pos ⟨by omega, by omega⟩]; rfl : Ac.label n false = 2 * n + 1)
        go_enter Tryd.func41, Tryd.ntmps41
        go_wp2
        go_ret
        exact ⟨ret_int' H.out.symm, rfl⟩
theorem refNameOf_any (l : Int) (w : World) : Calls Tryd.prog 38 #[.int .i64 l] w fun e w' => e = .returned (.tuple #[.int .i64 (Ac.nameN l), .bool (Ac.nameC l), .bool (Ac.named l)]) ∧ w' = w := by
  by_cases h0 : l ≤ 0
  · have H : Hid (Ac.nameN l = 0 ∧ Ac.nameC l = false ∧ Ac.named l = false) := ⟨by unfold Ac.nameN; rw [if_neg (by omega)], by simp [Ac.nameC]; omega, by simp [Ac.named]; omega⟩
    go_enter Tryd.func38, Tryd.ntmps38
    go_wp2
    rw [H.out.1, H.out.2.1, H.out.2.2]
    exact bodyPost_ret (by simp [results, Tryd.results38, go_sem] <;> omega) rfl ⟨rfl, rfl⟩
  · by_cases h1 : 201 ≤ l
    · have H : Hid (Ac.nameN l = 0 ∧ Ac.nameC l = false ∧ Ac.named l = false) := ⟨by unfold Ac.nameN; rw [if_neg (by omega)], by simp [Ac.nameC]; omega, by simp [Ac.named]; omega⟩
      go_enter Tryd.func38, Tryd.ntmps38
      go_wp2
      rw [H.out.1, H.out.2.1, H.out.2.2]
      exact bodyPost_ret (by simp [results, Tryd.results38, go_sem] <;> omega) rfl ⟨rfl, rfl⟩
    · obtain ⟨n, rfl⟩ : ∃ n : Nat, l = n := ⟨l.toNat, by omega⟩
      have hq : ((n : Int) - 1).tdiv 2 = ((n : Int) - 1) / 2 := Int.tdiv_eq_ediv_of_nonneg (by omega)
      have hr : (n : Int).tmod 2 = (n : Int) % 2 := Int.tmod_eq_emod_of_nonneg (by omega)
      by_cases h2 : (n : Int) % 2 = 0
      · have H : Hid (Ac.nameN n = ((n : Int) - 1) / 2 ∧ Ac.nameC n = true ∧ Ac.named n = true) := ⟨by unfold Ac.nameN; rw [if_pos (by omega)], by simp [Ac.nameC]; omega, by simp [Ac.named]; omega⟩
        have hb : ((n : Int).tmod 2 == 0) = true := by rw [hr, h2]; rfl
        go_enter Tryd.func38, Tryd.ntmps38
        go_wp2
        rw [H.out.1, H.out.2.1, H.out.2.2, ← hq]
        exact bodyPost_ret (by simp [results, Tryd.results38, go_sem] <;> omega) rfl ⟨rfl, rfl⟩
      · have H : Hid (Ac.nameN n = ((n : Int) - 1) / 2 ∧ Ac.nameC n = false ∧ Ac.named n = true) := ⟨by unfold Ac.nameN; rw [if_pos (by omega)], by simp [Ac.nameC]; omega, by simp [Ac.named]; omega⟩
        have hb : ((n : Int).tmod 2 == 0) = false := by rw [hr]; simp; omega
        go_enter Tryd.func38, Tryd.ntmps38
        go_wp2
        rw [H.out.1, H.out.2.1, H.out.2.2, ← hq]
        exact bodyPost_ret (by simp [results, Tryd.results38, go_sem] <;> omega) rfl ⟨rfl, rfl⟩
end Go.Proofs.YtebeimjgppidcacDoor
