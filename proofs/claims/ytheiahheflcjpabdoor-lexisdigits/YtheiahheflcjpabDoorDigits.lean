/- Plain facts on decimal digits: a number's digits, one ahead of the other, are read as that number. -/
import Derived.Test.YtheiahheflcjpabDoorPure
namespace Go.Proofs.YtheiahheflcjpabDoor
namespace Lx
def valF (n : Nat) (l : List UInt8) : Nat := l.foldl (fun n c => 10 * n + (c.toNat - 48)) n
theorem valF_shift (l : List UInt8) : ∀ n, valF n l = n * 10 ^ l.length + valF 0 l := by
  induction l with
  | nil => intro n; simp [valF]
  | cons c r ih =>
    intro n
    have h1 : valF n (c :: r) = valF (10 * n + (c.toNat - 48)) r := rfl
    have h2 : valF 0 (c :: r) = valF (10 * 0 + (c.toNat - 48)) r := rfl
    rw [h1, h2, ih, ih (10 * 0 + (c.toNat - 48))]
    simp only [List.length_cons, Nat.pow_succ, Nat.mul_zero, Nat.zero_add, Nat.add_mul]
    have : 10 * n * 10 ^ r.length = n * (10 ^ r.length * 10) := by
      rw [Nat.mul_comm 10 n, Nat.mul_assoc, Nat.mul_comm 10]
    omega
theorem valF_ge (l : List UInt8) (n : Nat) : n ≤ valF n l := by
  rw [valF_shift]
  have h : 1 ≤ 10 ^ l.length := Nat.one_le_pow _ _ (by omega)
  have : n * 1 ≤ n * 10 ^ l.length := Nat.mul_le_mul_left n h
  omega
theorem dig_bounds {c : UInt8} (h : digitZ (c.toNat : Int) = true) : 48 ≤ c.toNat ∧ c.toNat ≤ 57 := by
  simp [digitZ] at h; omega
theorem foldN_ok (l : List UInt8) : ∀ n, allDig l = true → valF n l ≤ 1073741824 → foldN n l = some (valF n l) := by
  induction l with
  | nil => intro n _ _; rfl
  | cons c r ih =>
    intro n hd hv
    have h1 : valF n (c :: r) = valF (10 * n + (c.toNat - 48)) r := rfl
    have hc : digitZ (c.toNat : Int) = true := by
      unfold allDig at hd; simp only [List.all_cons, Bool.and_eq_true] at hd; exact hd.1
    have hr : allDig r = true := by
      unfold allDig at hd ⊢; simp only [List.all_cons, Bool.and_eq_true] at hd; exact hd.2
    have hb := dig_bounds hc
    rw [h1] at hv ⊢
    have hge := valF_ge r (10 * n + (c.toNat - 48))
    rw [foldN, if_neg (by omega)]
    exact ih _ hr hv
/-- What the digits that are laid so far say of the number v, of which x is left. -/
def Dig (v x : Nat) (l : List UInt8) : Prop := allDig l = true ∧ v = x * 10 ^ l.length + valF 0 l ∧ (l = [] ∨ 0 < x ∨ l.head? ≠ some 48) ∧ l.length + x ≤ v
theorem Dig.start (v : Nat) : Dig v v [] := ⟨rfl, by simp [valF], .inl rfl, by simp⟩
theorem Dig.step {v x d : Nat} {l : List UInt8} {c : UInt8} (h : Dig v x l) (hx : 0 < x) (hd : x % 10 = d) (hc : c.toNat = 48 + d) : Dig v (x / 10) (c :: l) := by
  obtain ⟨h1, h2, h3, h4⟩ := h
  have hd9 : d ≤ 9 := by omega
  refine ⟨?_, ?_, ?_, ?_⟩
  · unfold allDig at h1 ⊢
    simp only [List.all_cons, h1, Bool.and_true]
    simp [digitZ, hc]; omega
  · have e : valF 0 (c :: l) = valF (10 * 0 + (c.toNat - 48)) l := rfl
    rw [e, valF_shift, hc, h2]
    simp only [List.length_cons, Nat.pow_succ, Nat.mul_zero, Nat.zero_add]
    have : x = 10 * (x / 10) + d := by omega
    have h5 : x * 10 ^ l.length = (10 * (x / 10) + d) * 10 ^ l.length := by rw [← this]
    rw [h5, Nat.add_mul, show 48 + d - 48 = d from by omega]
    have h6 : 10 * (x / 10) * 10 ^ l.length = x / 10 * (10 ^ l.length * 10) := by
      rw [Nat.mul_comm 10 (x / 10), Nat.mul_assoc, Nat.mul_comm 10]
    omega
  · by_cases h0 : 0 < x / 10
    · exact .inr (.inl h0)
    · refine .inr (.inr ?_)
      simp only [List.head?_cons, ne_eq, Option.some.injEq]
      intro e
      rw [e] at hc
      have : (48 : UInt8).toNat = 48 := rfl
      omega
  · simp only [List.length_cons]; omega
theorem Dig.num {v : Nat} {l : List UInt8} (h : Dig v 0 l) (hv : 0 < v) (hm : v ≤ 1073741824) : numR l = (v, 0) ∧ l ≠ [] := by
  obtain ⟨h1, h2, h3, h4⟩ := h
  have hne : l ≠ [] := by rintro rfl; simp [valF] at h2; omega
  have hh : l.head? ≠ some 48 := by
    rcases h3 with h | h | h
    · exact absurd h hne
    · omega
    · exact h
  have hv0 : valF 0 l = v := by omega
  have hb : badHead l = false := by
    unfold badHead
    have e1 : (l == []) = false := by cases l with
      | nil => exact absurd rfl hne
      | cons a r => rfl
    have e2 : (l.head? == some 48) = false := by simpa using hh
    rw [e1, e2]; rfl
  have hf := foldN_ok l 0 h1 (by omega)
  exact ⟨by simp [numR, hb, h1, hf, hv0], hne⟩
theorem num_zero : numR [48] = (0, 0) := by decide
theorem num_nought (l : List UInt8) (h : l ≠ []) : numR (48 :: l) = (0, 4) := by
  have hb : badHead (48 :: l) = true := by
    unfold badHead
    have : ((48 : UInt8) :: l != [48]) = true := by
      simp only [bne_iff_ne, ne_eq, List.cons.injEq, true_and]; exact h
    simp [this]
  simp [numR, hb]
theorem num_sign (l : List UInt8) : numR (45 :: l) = (0, 4) := by
  have : allDig (45 :: l) = false := by
    unfold allDig; simp only [List.all_cons]
    have : digitZ ((45 : UInt8).toNat : Int) = false := by decide
    rw [this]; rfl
  simp [numR, this]
theorem num_letter (l : List UInt8) : numR (l ++ [97]) = (0, 4) := by
  have : allDig (l ++ [97]) = false := by
    unfold allDig; simp only [List.all_append, List.all_cons, List.all_nil]
    have : digitZ ((97 : UInt8).toNat : Int) = false := by decide
    rw [this]; simp
  simp [numR, this]
end Lx
end Go.Proofs.YtheiahheflcjpabDoor
