/- Contracts of the document's own mark and BadAt; facts on what a byte may do; and of the book's SameTokens. -/
import Derived.Test.YthcboklkejlifaaGreatDoorNames
namespace Go.Proofs.YthcboklkejlifaaGreatDoor
open Go.RowKit
def marksB : ByteArray := ⟨#[61, 43, 124, 46, 92, 123, 125, 91, 93, 40, 41, 44, 47, 39, 60, 62, 126, 38, 45, 58, 59]⟩
theorem marks_nth : ∀ n : Fin 256, Lx.markZ (n.val : Int) = true ↔ ∃ k : Fin 21, (marksB.data.toList.getD k.val 0).toNat = n.val := by decide +kernel
theorem mark_hit (c : Int) (h0 : 0 ≤ c) (h1 : c ≤ 255) (k : Nat) (hk : k < marksB.size) (h : (marksB[k].toNat : Int) = c) : Lx.markZ c = true := by
  have h2 := (marks_nth ⟨c.toNat, by omega⟩).2 ⟨⟨k, hk⟩, ?_⟩
  · simp only [Int.toNat_of_nonneg h0] at h2; exact h2
  · have e : marksB.data.toList.getD k 0 = marksB[k] := by
      rw [List.getD_eq_getElem?_getD, List.getElem?_eq_getElem (by simpa using hk)]; rfl
    simp only [e]; omega
theorem mark_miss (c : Int) (h0 : 0 ≤ c) (h1 : c ≤ 255) (h : ∀ k (hk : k < marksB.size), (marksB[k].toNat : Int) ≠ c) : Lx.markZ c = false := by
  cases e : Lx.markZ c with
  | false => rfl
  | true =>
    obtain ⟨k, hk⟩ := (marks_nth ⟨c.toNat, by omega⟩).1 (by simp only [Int.toNat_of_nonneg h0]; exact e)
    refine absurd ?_ (h k.val k.isLt)
    have e2 : marksB.data.toList.getD k.val 0 = marksB[k.val]'k.isLt := by
      rw [List.getD_eq_getElem?_getD, List.getElem?_eq_getElem (show k.val < marksB.data.toList.length from k.isLt)]; rfl
    rw [e2] at hk
    simp only at hk
    omega
set_option maxHeartbeats 400000 in
theorem mark_any (c : Int) (w : World) (h0 : 0 ≤ c) (h1 : c ≤ 255) : Calls Tryz.prog 28 #[.int .u8 c] w fun e w' => e = .returned (.bool (Lx.markZ c)) ∧ w' = w := by
  go_enter Tryz.func28, Tryz.ntmps28
  go_wp2
  go_loop [3] (fun i => ∃ j : Nat, j ≤ 21 ∧ i = .int .i64 j ∧ ∀ k (hk : k < marksB.size), k < j → (marksB[k].toNat : Int) ≠ c) (fun i => 21 - (intOf i).toNat)
  case atStart => exact ⟨0, by omega, rfl, fun k _ h => by omega⟩
  case round =>
    obtain ⟨j, hj, rfl, hr⟩ := hrel
    have HR : Hid (∀ k (hk : k < marksB.size), k < j → (marksB[k].toNat : Int) ≠ c) := hr
    clear hr
    by_cases hlt : j < 21
    · have q0 : (j : Int) < 21 := by omega
      have hsz : j < (⟨#[61, 43, 124, 46, 92, 123, 125, 91, 93, 40, 41, 44, 47, 39, 60, 62, 126, 38, 45, 58, 59]⟩ : ByteArray).size := hlt
      by_cases hg : (((⟨#[61, 43, 124, 46, 92, 123, 125, 91, 93, 40, 41, 44, 47, 39, 60, 62, 126, 38, 45, 58, 59]⟩ : ByteArray)[j]'hsz).toNat : Int) = c
      · have HF : Hid (Lx.markZ c = true) := mark_hit c h0 h1 j hlt hg
        have q1 : ((((⟨#[61, 43, 124, 46, 92, 123, 125, 91, 93, 40, 41, 44, 47, 39, 60, 62, 126, 38, 45, 58, 59]⟩ : ByteArray)[j]'hsz).toNat : Int) == c) = true := beq_iff_eq.2 hg
        clear hg
        go_wp2
        go_ret
        exact ⟨ret_bool HF.out.symm, rfl⟩
      · have q1 : ((((⟨#[61, 43, 124, 46, 92, 123, 125, 91, 93, 40, 41, 44, 47, 39, 60, 62, 126, 38, 45, 58, 59]⟩ : ByteArray)[j]'hsz).toNat : Int) == c) = false := beq_eq_false_iff_ne.2 hg
        have HG : Hid (((marksB[j]'hlt).toNat : Int) ≠ c) := hg
        clear hg
        go_wp2
        go_round
        case rel => exact ⟨j + 1, by omega, by go_num, fun k hk h => by
          rcases Nat.lt_or_ge k j with h' | h'
          · exact HR.out k hk h'
          · obtain rfl : k = j := by omega
            exact HG.out⟩
        case measure => simp [intOf]; omega
    · have HF : Hid (Lx.markZ c = false) := mark_miss c h0 h1 fun k hk => HR.out k hk (by have : marksB.size = 21 := rfl; omega)
      have q0 : ¬ (j : Int) < 21 := by omega
      go_wp2
      go_ret
      exact ⟨ret_bool HF.out.symm, rfl⟩
theorem badAt_any (k l c : Int) (w : World) : Calls Tryz.prog 27 #[.string ⟨#[108, 101, 120, 105, 115]⟩, .int .i64 k, .int .i64 l, .int .i64 c] w fun e w' => e = .returned (.agg #[.int .i64 k, .int .i64 l, .int .i64 c, .string ⟨#[108, 101, 120, 105, 115, 32]⟩]) ∧ w' = w.alloc (.cells #[.int .i64 k, .int .i64 l, .int .i64 c, .string ⟨#[108, 101, 120, 105, 115, 32]⟩] 44) := by
  have zs : (⟨#[108, 101, 120, 105, 115]⟩ ++ ⟨#[32]⟩ : ByteArray) = ⟨#[108, 101, 120, 105, 115, 32]⟩ := by decide
  go_enter Tryz.func27, Tryz.ntmps27
  go_wp2
  exact bodyPost_ret (v := .agg #[.int .i64 k, .int .i64 l, .int .i64 c, .string ⟨#[108, 101, 120, 105, 115, 32]⟩]) (by simp [results, Tryz.results27, go_sem]) rfl ⟨rfl, rfl⟩
/-- What a byte's class says of the byte. -/
theorem pow_seven (c : Int) (h : Lx.powZ c = 7) : Lx.letterZ c = true ∧ Lx.goB c = true := by
  have h1 : (Lx.smallZ c || Lx.greatZ c) = true := by
    cases e : (Lx.smallZ c || Lx.greatZ c) with
    | true => rfl
    | false =>
      unfold Lx.powZ at h
      rw [e] at h
      simp only [Bool.false_eq_true, if_false] at h
      repeat' split at h
      all_goals simp at h
  exact ⟨h1, by unfold Lx.goB; rw [h1]; rfl⟩
theorem letter_range (c : Int) (h : Lx.letterZ c = true) : (65 ≤ c ∧ c ≤ 90) ∨ (97 ≤ c ∧ c ≤ 122) := by
  unfold Lx.letterZ Lx.smallZ Lx.greatZ at h
  simp at h
  omega
theorem pow_ne (c : Int) : (Lx.powZ c = 3 → Lx.letterZ c = false ∧ 48 ≤ c ∧ c ≤ 57 ∧ Lx.goB c = true) ∧
    (Lx.powZ c = 16 → c = 32 ∨ c = 9 ∨ c = 13) ∧ (Lx.powZ c = 32 → c = 35) ∧ (Lx.powZ c = 64 → c = 10) ∧ (Lx.powZ c = 1 → c = 95) ∧
    (Lx.powZ c = 8 → Lx.markZ c = true ∧ Lx.goB c = false ∧ c ≠ 32 ∧ c ≠ 9 ∧ c ≠ 13 ∧ c ≠ 35 ∧ c ≠ 10) ∧
    (Lx.powZ c = 0 → Lx.markZ c = false ∧ Lx.goB c = false ∧ c ≠ 32 ∧ c ≠ 9 ∧ c ≠ 13 ∧ c ≠ 35 ∧ c ≠ 10) := by
  unfold Lx.powZ Lx.goB Lx.letterZ
  cases h1 : (Lx.smallZ c || Lx.greatZ c) with
  | true => simp
  | false =>
    cases h2 : Lx.digitZ c with
    | true =>
      have hd : 48 ≤ c ∧ c ≤ 57 := by simpa [Lx.digitZ] using h2
      simp; omega
    | false =>
      cases h3 : (c == 95) with
      | true => simp; simpa using h3
      | false =>
        cases h4 : (c == 32 || c == 9 || c == 13) with
        | true => simp; simp at h4; omega
        | false =>
          cases h5 : (c == 35) with
          | true => simp; simpa using h5
          | false =>
            cases h6 : (c == 10) with
            | true => simp; simpa using h6
            | false =>
              cases h7 : Lx.markZ c with
              | true => simp; simp at h4 h5 h6; omega
              | false => simp; simp at h4 h5 h6; omega
end Go.Proofs.YthcboklkejlifaaGreatDoor
